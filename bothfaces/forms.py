"""Pictures joined and taken from one another, and what stays of one that is turned and moved."""

from bothfaces.pictures import holes_of, picture
from bothfaces.turnings import shifted, turned

TURNINGS = 8


def joined(one, other):
    return picture(one + other)


def less(one, other):
    colour_by_line = dict(other)
    return [(line, colour) for line, colour in one if line not in colour_by_line]


def home(one):
    holes = holes_of([line for line, colour in one])
    west = min([hole[0] for hole in holes], default=0)
    south = min([hole[1] for hole in holes], default=0)
    return shifted(one, -west, -south)


def homes(one):
    return [home(turned(one, way)) for way in range(TURNINGS)]


def form(one):
    return min(homes(one))


def alike_by(one):
    own = home(one)
    return [way for way, other in enumerate(homes(one)) if other == own]
