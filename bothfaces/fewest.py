"""The fewest threads that do a work, and the paper that tells why there can be no fewer."""

from bothfaces.pictures import holes_of
from bothfaces.pieces import need_of_piece, pieces
from bothfaces.rows import threads_by
from bothfaces.threads import face_at
from bothfaces.ties import plain_ties
from bothfaces.works import surplus


def begun_at(ring, hole, face):
    at = ring[1].index(hole)
    holes = ring[1][at:-1] + ring[1][:at + 1]
    # A ring comes to each of its holes on the one face and leaves it on the other: turned about it
    # begins on the other face.
    return holes if face_at(ring, at) == face else holes[::-1]


def with_ring(thread, ring):
    holes = thread[1]
    for at, hole in enumerate(holes):
        if hole in ring[1]:
            # The ring has as many stitches on the front as on the back, so those behind it keep their faces.
            return (thread[0], holes[:at] + begun_at(ring, hole, face_at(thread, at)) + holes[at + 1:])
    return None


def taken_in(threads, ring):
    for at in range(len(threads)):
        longer = with_ring(threads[at], ring)
        if longer is not None:
            threads[at] = longer
            return True
    return False


def fewest(work):
    rows = threads_by(work, plain_ties(work))
    told = [thread for thread, closed in rows if not closed]
    rings = [thread for thread, closed in rows if closed]
    while rings:
        ring = rings.pop()
        # A ring that meets none of the others, neither thread nor ring, is a piece by itself.
        if not taken_in(told, ring) and not taken_in(rings, ring):
            told.append(ring)
    return told


def paper(work):
    return [(holes_of(piece[0] + piece[1])[0], surplus(piece), need_of_piece(piece)) for piece in pieces(work)]
