"""Threads: holes one behind the other, and a stitch from each to the next, by turns on either face."""

from bothfaces.lines import are_ends, is_pair, ordered

FACES = ("front", "back")
FEWEST_HOLES = 2
MOST_HOLES = 400


def is_face(thing):
    # Things of other kinds are not compared: they may refuse it.
    return isinstance(thing, str) and thing in FACES


def other_face(face):
    return "back" if face == "front" else "front"


def are_holes(thing):
    if not isinstance(thing, tuple) or not FEWEST_HOLES <= len(thing) <= MOST_HOLES:
        return False
    return all([are_ends(one, other) for one, other in zip(thing, thing[1:])])


def is_thread(thing):
    return is_pair(thing) and is_face(thing[0]) and are_holes(thing[1])


def face_at(thread, at):
    return thread[0] if at % 2 == 0 else other_face(thread[0])


def stitches(thread):
    holes = thread[1]
    return [(face_at(thread, at), ordered(holes[at], holes[at + 1])) for at in range(len(holes) - 1)]


def turned_about(thread):
    last = len(thread[1]) - 2
    return (face_at(thread, last), thread[1][::-1])
