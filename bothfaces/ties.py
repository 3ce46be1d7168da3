"""Ties: at which holes a thread goes from which front line to which back line."""

from bothfaces.errors import NoTie
from bothfaces.lines import is_whole
from bothfaces.threads import FACES, is_face


def lines_by_hole(lines):
    by_hole = {}
    for line in lines:
        for hole in line:
            by_hole.setdefault(hole, []).append(line)
    return by_hole


def plain_ties(work):
    front = lines_by_hole(work[0])
    back = lines_by_hole(work[1])
    ties = []
    for hole in sorted(front):
        for one, other in zip(front[hole], back.get(hole, [])):
            ties.append((hole, one, other))
    return ties


def is_place(ties, at):
    # Python counts places below 0 from the end; here they are none.
    return is_whole(at) and 0 <= at < len(ties)


def exchanged(ties, one, other):
    if not is_place(ties, one) or not is_place(ties, other) or one == other:
        raise NoTie("these are not two places of the list")
    if ties[one][0] != ties[other][0]:
        raise NoTie("these two ties are not at one hole")
    told = list(ties)
    told[one] = (ties[one][0], ties[one][1], ties[other][2])
    told[other] = (ties[other][0], ties[other][1], ties[one][2])
    return told


def is_free(work, ties, hole, face, line):
    if not is_face(face) or line not in work[FACES.index(face)] or hole not in line:
        return False
    side = 1 + FACES.index(face)
    return all([tie[0] != hole or tie[side] != line for tie in ties])


def retied(work, ties, at, face, line):
    if not is_place(ties, at):
        raise NoTie("this is no place of the list")
    hole = ties[at][0]
    if not is_free(work, ties, hole, face, line):
        raise NoTie("this is no free line at the hole of the tie")
    told = list(ties)
    told[at] = (hole, line, ties[at][2]) if face == "front" else (hole, ties[at][1], line)
    return told
