"""Holes of the cloth, and the lines between two of them."""

from bothfaces.errors import NoLine

FARTHEST = 1000000000
LONGEST = 9


def is_whole(thing):
    # To Python True and False are ints; here they are no whole numbers.
    return isinstance(thing, int) and not isinstance(thing, bool)


def is_pair(thing):
    return isinstance(thing, tuple) and len(thing) == 2


def is_within(thing):
    return is_whole(thing) and -FARTHEST <= thing <= FARTHEST


def is_hole(thing):
    return is_pair(thing) and is_within(thing[0]) and is_within(thing[1])


def are_near(one, other):
    return abs(one[0] - other[0]) <= LONGEST and abs(one[1] - other[1]) <= LONGEST


def ordered(one, other):
    return (one, other) if one < other else (other, one)


def is_line(thing):
    if not (is_pair(thing) and is_hole(thing[0]) and is_hole(thing[1])):
        return False
    return thing[0] < thing[1] and are_near(thing[0], thing[1])


def are_ends(one, other):
    return is_line((one, other)) or is_line((other, one))


def line(one, other):
    if not are_ends(one, other):
        # The two are not shown in the words: they may be of any kind, and showing them may fail.
        raise NoLine("these two make no line")
    return ordered(one, other)
