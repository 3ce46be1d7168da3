"""The pen that does the strokes of a drawing, and the picture that it draws."""

from bothfaces.errors import NoHole, TooMany
from bothfaces.lines import is_hole, ordered
from bothfaces.pictures import picture
from bothfaces.turnings import behind, shifted_hole, turned_hole

MOST_STROKES = 2000
MOST_DRAWN = 400


class Pen:
    def __init__(self):
        self.place = (0, 0)
        self.colour = "black"
        self.turning = 0
        self.stroke_count = 0
        self.pairs = []

    def begin_stroke(self):
        if self.stroke_count >= MOST_STROKES:
            raise TooMany("a drawing has at most 2000 strokes as the pen does them")
        self.stroke_count += 1

    def come(self, x, y):
        step = turned_hole((x, y), self.turning)
        place = shifted_hole(self.place, step[0], step[1])
        if not is_hole(place):
            raise NoHole("the pen would come beyond the bounds")
        self.place = place

    def draw(self, x, y):
        # Ahead of coming there: of both refusals this one is told first.
        if len(self.pairs) >= MOST_DRAWN:
            raise TooMany("the pen draws at most 400 lines")
        ahead = self.place
        self.come(x, y)
        self.pairs.append((ordered(ahead, self.place), self.colour))


def do_and_come_back(pen, strokes):
    place = pen.place
    colour = pen.colour
    do_all(pen, strokes)
    # The turning needs no such care: every turn gives it back itself.
    pen.place = place
    pen.colour = colour


def do_times(pen, rounds, strokes):
    for at in range(rounds):
        pen.begin_stroke()
        do_all(pen, strokes)


def do_turned(pen, way, strokes):
    ahead = pen.turning
    pen.turning = behind(way, ahead)
    do_all(pen, strokes)
    pen.turning = ahead


def do_stroke(pen, stroke):
    kind = stroke[0]
    if kind == "line":
        pen.draw(stroke[1], stroke[2])
    elif kind == "by":
        pen.come(stroke[1], stroke[2])
    elif kind == "ink":
        pen.colour = stroke[1]
    elif kind == "back":
        do_and_come_back(pen, stroke[1])
    elif kind == "times":
        do_times(pen, stroke[1], stroke[2])
    else:
        do_turned(pen, stroke[1], stroke[2])


def do_all(pen, strokes):
    for stroke in strokes:
        pen.begin_stroke()
        do_stroke(pen, stroke)


def drawn(strokes):
    pen = Pen()
    do_all(pen, strokes)
    return picture(pen.pairs)
