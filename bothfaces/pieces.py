"""The pieces of a work, whose lines hang together, and how many threads they need."""

from bothfaces.works import surplus


def neighbours_by_hole(work):
    neighbours = {}
    for one, other in work[0] + work[1]:
        neighbours.setdefault(one, []).append(other)
        neighbours.setdefault(other, []).append(one)
    return neighbours


def least_by_hole(work):
    neighbours = neighbours_by_hole(work)
    least = {}
    # The holes come rising: the first one of a piece is its least one.
    for first in sorted(neighbours):
        waiting = [first]
        while waiting:
            hole = waiting.pop()
            if hole not in least:
                least[hole] = first
                waiting.extend(neighbours[hole])
    return least


def lines_at(lines, least, first):
    # Picked in their order, so they stay sorted; both ends of a line have one least hole.
    return [line for line in lines if least[line[0]] == first]


def pieces(work):
    least = least_by_hole(work)
    firsts = [hole for hole in sorted(least) if least[hole] == hole]
    return [(lines_at(work[0], least, first), lines_at(work[1], least, first)) for first in firsts]


def need_of_piece(piece):
    half = sum([abs(much) for hole, much in surplus(piece)]) // 2
    # A thread that comes back to its first hole leaves no surplus, but it is a thread.
    return max(half, 1)


def need(work):
    return sum([need_of_piece(piece) for piece in pieces(work)])
