"""Drawings read from texts to strokes, and strokes written as texts."""

from bothfaces.errors import NoDrawing
from bothfaces.lines import FARTHEST, LONGEST
from bothfaces.pictures import is_colour

MOST_SIGNS = 2000
MOST_FIGURES = 10
MOST_DEPTH = 8
MOST_ROUNDS = 60
LAST_TURNING = 7
WAYS = {
    "n": (0, 1),
    "ne": (1, 1),
    "e": (1, 0),
    "se": (1, -1),
    "s": (0, -1),
    "sw": (-1, -1),
    "w": (-1, 0),
    "nw": (-1, 1),
}


# The words that are still to be read lie in a list with the next one last: each def takes
# its own from there, so that what is left is what follows.
def next_word(words):
    # No word of a drawing is without a sign, so this one stands for there being none.
    return words.pop() if words else ""


def expect(words, wanted):
    if next_word(words) != wanted:
        raise NoDrawing("a word stands where another one is wanted")


def is_number_word(word):
    figures = word[1:] if word.startswith("-") else word
    # Python's own isdigit lets by figures other than 0 to 9, and int lets by blanks and more.
    if not all(["0" <= sign <= "9" for sign in figures]):
        return False
    return 1 <= len(figures) <= MOST_FIGURES and (word == "0" or figures[0] != "0")


def number(word, least, most):
    if not is_number_word(word):
        raise NoDrawing("a word is no number")
    value = int(word)
    if not least <= value <= most:
        raise NoDrawing("a number is beyond its bounds")
    return value


def read_line(words):
    x = number(next_word(words), -LONGEST, LONGEST)
    y = number(next_word(words), -LONGEST, LONGEST)
    if x == 0 and y == 0:
        raise NoDrawing("a line leads to another hole")
    return ("line", x, y)


def read_by(words):
    x = number(next_word(words), -FARTHEST, FARTHEST)
    y = number(next_word(words), -FARTHEST, FARTHEST)
    return ("by", x, y)


def read_ink(words):
    colour = next_word(words)
    if not is_colour(colour):
        raise NoDrawing("an ink is a colour")
    return ("ink", colour)


def read_turn(words, depth):
    way = number(next_word(words), 0, LAST_TURNING)
    expect(words, "(")
    return ("turn", way, read_inner(words, depth))


def read_times(word, words, depth):
    rounds = number(word, 1, MOST_ROUNDS)
    expect(words, "times")
    expect(words, "(")
    return ("times", rounds, read_inner(words, depth))


def read_inner(words, depth):
    if depth >= MOST_DEPTH:
        raise NoDrawing("too many brackets are begun within one another")
    strokes = read_row(words, depth + 1)
    expect(words, ")")
    if not strokes:
        raise NoDrawing("brackets hold a stroke at least")
    return strokes


def read_stroke(words, depth):
    word = next_word(words)
    if word in WAYS:
        way = WAYS[word]
        return ("line", way[0], way[1])
    if word == "line":
        return read_line(words)
    if word == "by":
        return read_by(words)
    if word == "ink":
        return read_ink(words)
    if word == "(":
        return ("back", read_inner(words, depth))
    if word == "turn":
        return read_turn(words, depth)
    return read_times(word, words, depth)


def read_row(words, depth):
    strokes = []
    while words and words[-1] != ")":
        strokes.append(read_stroke(words, depth))
    return strokes


def read(text):
    if not isinstance(text, str) or len(text) > MOST_SIGNS:
        raise NoDrawing("a drawing is a text of at most 2000 signs")
    # Split at its blanks the text without a sign would give a word, but it has none.
    words = list(reversed(text.split(" "))) if text else []
    strokes = read_row(words, 0)
    if words:
        raise NoDrawing("brackets are closed that are not begun")
    return strokes


def shown_line(x, y):
    for word, way in WAYS.items():
        if way == (x, y):
            return word
    return f"line {x} {y}"


def shown_inner(strokes):
    return "( " + shown(strokes) + " )"


def shown_stroke(stroke):
    kind = stroke[0]
    if kind == "line":
        return shown_line(stroke[1], stroke[2])
    if kind == "by":
        return "by " + str(stroke[1]) + " " + str(stroke[2])
    if kind == "ink":
        return "ink " + stroke[1]
    if kind == "back":
        return shown_inner(stroke[1])
    if kind == "times":
        return str(stroke[1]) + " times " + shown_inner(stroke[2])
    return "turn " + str(stroke[1]) + " " + shown_inner(stroke[2])


def shown(strokes):
    return " ".join([shown_stroke(stroke) for stroke in strokes])
