"""Colours, and pictures: sorted lists of lines with their colours."""

from bothfaces.errors import TooMany, TwoColours

MOST_LETTERS = 8
MOST_LINES = 120


def is_colour(thing):
    if not isinstance(thing, str) or not 1 <= len(thing) <= MOST_LETTERS:
        return False
    # Python's own islower lets by letters beyond a to z, and figures among them.
    return all(["a" <= sign <= "z" for sign in thing])


def picture(pairs):
    colour_by_line = {}
    for line, colour in pairs:
        if colour_by_line.setdefault(line, colour) != colour:
            raise TwoColours("a line comes with two colours")
    # Only behind the whole walk: a line with two colours is refused first, wherever it stands.
    if len(colour_by_line) > MOST_LINES:
        raise TooMany("a picture has at most 120 lines")
    return sorted(colour_by_line.items())


def colours(one):
    return sorted(set([colour for line, colour in one]))


def lines_of(one, colour):
    return sorted([line for line, own in one if own == colour])


def holes_of(lines):
    return sorted(set([line[0] for line in lines] + [line[1] for line in lines]))
