"""The eight turnings of holes and of pictures, and pictures moved."""

from bothfaces.errors import NoHole
from bothfaces.lines import is_hole, ordered
from bothfaces.pictures import holes_of

QUARTERS = 4


def is_mirroring(way):
    return way >= QUARTERS


def turned_hole(hole, way):
    if is_mirroring(way):
        hole = (-hole[0], hole[1])
    for quarter in range(way % QUARTERS):
        hole = (-hole[1], hole[0])
    return hole


def turned_line(line, way):
    return ordered(turned_hole(line[0], way), turned_hole(line[1], way))


def turned(one, way):
    return sorted([(turned_line(line, way), colour) for line, colour in one])


def behind(first, second):
    # A mirroring makes a quarter to the left that lies ahead of it one to the right.
    quarters = second - first if is_mirroring(second) else second + first
    mirrored = is_mirroring(first) != is_mirroring(second)
    return quarters % QUARTERS + (QUARTERS if mirrored else 0)


def shifted_hole(hole, east, north):
    return (hole[0] + east, hole[1] + north)


def shifted_line(line, east, north):
    return (shifted_hole(line[0], east, north), shifted_hole(line[1], east, north))


def shifted(one, east, north):
    # No bounds are looked at, as homes may lie beyond them; the order stays as it was.
    return [(shifted_line(line, east, north), colour) for line, colour in one]


def moved(one, east, north):
    told = shifted(one, east, north)
    if not all([is_hole(hole) for hole in holes_of([line for line, colour in told])]):
        raise NoHole("a hole would come beyond the bounds")
    return told
