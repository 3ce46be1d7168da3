"""The threads that a work and ties make."""


def tied_by_end(ties):
    tied = {}
    for hole, one, other in ties:
        tied[(("front", one), hole)] = ("back", other)
        tied[(("back", other), hole)] = ("front", one)
    return tied


def other_end(line, hole):
    return line[1] if hole == line[0] else line[0]


def thread_from(tied, stitch, hole, used):
    face = stitch[0]
    holes = [hole]
    # A thread goes on to a loose end, or, where it is closed, comes round to its first stitch.
    while stitch is not None and stitch not in used:
        used[stitch] = True
        hole = other_end(stitch[1], hole)
        holes.append(hole)
        stitch = tied.get((stitch, hole))
    return (face, tuple(holes))


def threads_by(work, ties):
    tied = tied_by_end(ties)
    asked = [("front", line) for line in work[0]] + [("back", line) for line in work[1]]
    used = {}
    told = []
    for stitch in asked:
        for hole in stitch[1]:
            if stitch not in used and (stitch, hole) not in tied:
                told.append((thread_from(tied, stitch, hole, used), False))
    # All that have a loose end are walked by now: what is left goes round.
    for stitch in asked:
        if stitch not in used:
            told.append((thread_from(tied, stitch, stitch[1][0], used), True))
    return told
