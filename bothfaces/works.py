"""Works: the lines of one colour, those of the front and those of the back, and their surplus."""

from bothfaces.pictures import lines_of


def work_of(front, back, colour):
    return (lines_of(front, colour), lines_of(back, colour))


def surplus(work):
    by_hole = {}
    for lines, sign in ((work[0], 1), (work[1], -1)):
        for line in lines:
            for hole in line:
                by_hole[hole] = by_hole.get(hole, 0) + sign
    return [(hole, by_hole[hole]) for hole in sorted(by_hole) if by_hole[hole] != 0]
