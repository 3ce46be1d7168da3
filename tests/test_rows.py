"""Promise 21, the threads that a work and ties make, what promise 22 says of them, and promise 2."""

import random
import unittest

from bothfaces.rows import threads_by
from bothfaces.threads import is_thread
from bothfaces.ties import exchanged, plain_ties, retied
from tests.askers import AskersOwn
from tests.sewing import (
    AFAR, EAST, FACES, MIDDLE, NORTH, RIGHT, SLANT, SOUTH, SQUARE, TOP, WEST, heaps, made, moved, sewn, some_tied,
    some_works, stitches_asked, way,
)


def tie_of(hole, first, second):
    """The tie at the hole of two stitches, or None where they are of one face."""
    by_face = dict((first, second))
    return (hole, by_face["front"], by_face["back"]) if len(by_face) == 2 else None


def heap_of(thread):
    return tuple(sorted(sewn(thread)))


class RowsCase(unittest.TestCase):
    def assert_rows(self, work, ties):
        """All that promise 21 says, word by word; the told ones are handed back."""
        told = threads_by(work, ties)
        self.assertIsInstance(told, list)
        laid, used = [], []
        for row in told:
            self.assertIsInstance(row, tuple)
            thread, closed = row
            self.assertIs(is_thread(thread), True)
            self.assertIn(closed, (True, False))
            self.assertIsInstance(closed, bool)
            own = sewn(thread)
            laid += own
            used += self.ties_within(thread, closed, ties)
        self.assertEqual(sorted(laid), sorted(stitches_asked(work)))
        self.assertEqual(sorted(used), sorted(ties))
        self.assertEqual(sorted(heap_of(thread) for thread, closed in told), heaps(work, ties))
        return told

    def ties_within(self, thread, closed, ties):
        holes, own = thread[1], sewn(thread)
        used = [tie_of(hole, *two) for hole, two in zip(holes[1:], zip(own, own[1:]))]
        ends = [((holes[0],) + own[0]), ((holes[-1],) + own[-1])]
        if closed:
            self.assertEqual(holes[0], holes[-1])
            used.append(tie_of(holes[0], own[0], own[-1]))
        else:
            for hole, face, line in ends:
                side = 1 + FACES.index(face)
                self.assertEqual([tie for tie in ties if tie[0] == hole and tie[side] == line], [])
        for tie in used:
            self.assertIn(tie, ties)
        return used


class ThreadsByTest(RowsCase):
    def test_without_lines(self):
        self.assertEqual(threads_by(([], []), []), [])

    def test_a_single_line(self):
        for line in (EAST, SLANT, AFAR):
            for face, work in (("front", ([line], [])), ("back", ([], [line]))):
                (thread, closed), = self.assert_rows(work, [])
                self.assertEqual(thread[0], face)
                self.assertEqual(tuple(sorted(thread[1])), line)
                self.assertIs(closed, False)

    def test_two_lines_tied(self):
        for front, back, hole in ((EAST, NORTH, MIDDLE), (NORTH, EAST, MIDDLE), (EAST, SLANT, (1, 0))):
            (thread, closed), = self.assert_rows(([front], [back]), [(hole, front, back)])
            self.assertEqual(thread[1][1], hole)
            self.assertIs(closed, False)

    def test_two_lines_not_tied(self):
        told = self.assert_rows(([EAST], [NORTH]), [])
        self.assertEqual([closed for thread, closed in told], [False, False])

    def test_a_closed_one_of_two_stitches(self):
        for line in (EAST, NORTH, SLANT, AFAR):
            work = ([line], [line])
            (thread, closed), = self.assert_rows(work, plain_ties(work))
            self.assertIs(closed, True)
            self.assertEqual(len(thread[1]), 3)
            self.assertEqual(sorted(set(thread[1])), list(line))

    def test_front_and_back_on_one_line_with_one_tie(self):
        work = ([EAST], [EAST])
        for hole in EAST:
            (thread, closed), = self.assert_rows(work, [(hole, EAST, EAST)])
            # It comes back to its first hole, but it is not tied there.
            self.assertIs(closed, False)
            self.assertEqual(thread[1][1], hole)
            self.assertEqual(thread[1][0], thread[1][2])

    def test_front_and_back_on_one_line_without_ties(self):
        told = self.assert_rows(([EAST], [EAST]), [])
        self.assertEqual(sorted(thread[0] for thread, closed in told), ["back", "front"])
        self.assertEqual([closed for thread, closed in told], [False, False])

    def test_round_a_square_by_turns(self):
        work = made([EAST, TOP], [NORTH, RIGHT])
        (thread, closed), = self.assert_rows(work, plain_ties(work))
        self.assertIs(closed, True)
        self.assertEqual(len(thread[1]), 5)
        # Without one of its ties it is one thread still, which ends where it begins.
        for at in range(4):
            ties = plain_ties(work)
            hole = ties.pop(at)[0]
            (thread, closed), = self.assert_rows(work, ties)
            self.assertIs(closed, False)
            self.assertEqual((thread[1][0], thread[1][-1]), (hole, hole))
        # Without two of them there are two.
        for one in range(4):
            for other in range(one):
                ties = [tie for at, tie in enumerate(plain_ties(work)) if at not in (one, other)]
                self.assertEqual([closed for thread, closed in self.assert_rows(work, ties)], [False, False])

    def test_a_square_on_both_faces(self):
        work = made(SQUARE, SQUARE)
        # Plainly tied each line goes there and back; with one face's ties changed about it goes round.
        told = self.assert_rows(work, plain_ties(work))
        self.assertEqual([(len(thread[1]), closed) for thread, closed in told], [(3, True)] * 4)
        ties = plain_ties(work)
        for at in (0, 2, 4, 6):
            ties = exchanged(ties, at, at + 1)
        told = self.assert_rows(work, ties)
        self.assertEqual([(len(thread[1]), closed) for thread, closed in told], [(5, True)] * 2)

    def test_an_end_amid_another_thread(self):
        # The one goes on through the middle, the other ends there.
        work = made([WEST, SOUTH], [NORTH])
        for front in (WEST, SOUTH):
            told = self.assert_rows(work, [(MIDDLE, front, NORTH)])
            self.assertEqual(sorted(len(thread[1]) for thread, closed in told), [2, 3])
            self.assertEqual([closed for thread, closed in told], [False, False])

    def test_a_thread_that_comes_through_its_own_hole(self):
        # A closed way of four stitches hangs at the middle of a thread, and is tied in.
        ring = made([((0, 0), (3, 3)), ((4, 0), (5, 5))], [((3, 3), (4, 0)), ((0, 0), (5, 5))])
        work = made([WEST] + ring[0], [SOUTH] + ring[1])
        told = self.assert_rows(work, plain_ties(work))
        self.assertEqual(sorted((len(thread[1]), closed) for thread, closed in told), [(3, False), (5, True)])
        at = [place for place, tie in enumerate(plain_ties(work)) if tie[0] == MIDDLE]
        (thread, closed), = self.assert_rows(work, exchanged(plain_ties(work), *at))
        self.assertIs(closed, False)
        self.assertEqual(thread[1].count(MIDDLE), 2)

    def test_one_thread_of_240_stitches(self):
        lines = way(*((x, x * 7 % 5) for x in range(241)))
        work = made(lines[::2], lines[1::2])
        self.assertEqual([len(each) for each in work], [120, 120])
        (thread, closed), = self.assert_rows(work, plain_ties(work))
        self.assertIs(closed, False)
        self.assertEqual(len(thread[1]), 241)

    def test_one_closed_thread_of_240_stitches(self):
        holes = [(x, 0) for x in range(120)] + [(x, 1) for x in range(119, -1, -1)] + [(0, 0)]
        lines = [tuple(sorted(line)) for line in way(*holes)]
        work = made(lines[::2], lines[1::2])
        self.assertEqual([len(each) for each in work], [120, 120])
        (thread, closed), = self.assert_rows(work, plain_ties(work))
        self.assertIs(closed, True)
        self.assertEqual(len(thread[1]), 241)

    def test_some_works_with_their_plain_ties(self):
        for at, work in enumerate(some_works(80)):
            with self.subTest(at=at):
                self.assert_rows(work, plain_ties(work))

    def test_some_works_without_ties(self):
        for at, work in enumerate(some_works(40)):
            with self.subTest(at=at):
                told = self.assert_rows(work, [])
                self.assertEqual(len(told), len(work[0]) + len(work[1]))
                self.assertFalse(any(closed for thread, closed in told))

    def test_some_works_with_ties_in_any_order_and_some_left_out(self):
        seen = set()
        for at, (work, ties) in enumerate(some_tied(120)):
            with self.subTest(at=at):
                told = self.assert_rows(work, ties)
                seen |= {(closed, min(len(thread[1]), 6)) for thread, closed in told}
        self.assertTrue(seen.issuperset({(True, 3), (True, 5), (True, 6), (False, 2), (False, 3), (False, 6)}))

    def test_the_order_of_the_ties_makes_no_other_threads(self):
        dice = random.Random(5)
        for work, ties in some_tied(30):
            mixed = list(ties)
            dice.shuffle(mixed)
            self.assertEqual(*(
                sorted((heap_of(thread), closed) for thread, closed in self.assert_rows(work, each))
                for each in (ties, mixed)
            ))

    def test_somewhat_more_lines_are_not_refused(self):
        lines = way(*((x, 0) for x in range(301)))
        work = (lines[::2], lines[1::2])
        (thread, closed), = threads_by(work, plain_ties(work))
        self.assertEqual(len(thread[1]), 301)


class JoinedTest(RowsCase):
    """What promise 22 says of threads: where one of two is closed they become one."""

    def assert_one_of_two(self, work, ties, told, first, second):
        """The two heaps of stitches are one now, and all others stay."""
        before = heaps(work, ties)
        after = sorted(heap_of(thread) for thread, closed in self.assert_rows(work, told))
        wanted = [heap for heap in before if heap not in (first, second)]
        self.assertEqual(after, sorted(wanted + [tuple(sorted(first + second))]))

    def by_stitch(self, work, ties):
        rows = threads_by(work, ties)
        return {stitch: (heap_of(thread), closed) for thread, closed in rows for stitch in sewn(thread)}

    def test_two_closed_ones_by_an_exchange(self):
        work = made([EAST, NORTH], [EAST, NORTH])
        ties = plain_ties(work)
        self.assertEqual([closed for thread, closed in threads_by(work, ties)], [True, True])
        (thread, closed), = self.assert_rows(work, exchanged(ties, 0, 1))
        self.assertIs(closed, True)
        self.assertEqual(len(thread[1]), 5)
        # Exchanged again they are two again.
        self.assertEqual(len(self.assert_rows(work, exchanged(exchanged(ties, 0, 1), 0, 1))), 2)

    def test_a_closed_one_and_one_that_is_not_by_an_exchange(self):
        work = made([EAST, NORTH], [EAST, WEST])
        ties = [((1, 0), EAST, EAST), (MIDDLE, EAST, EAST), (MIDDLE, NORTH, WEST)]
        self.assertEqual(sorted(closed for thread, closed in threads_by(work, ties)), [False, True])
        (thread, closed), = self.assert_rows(work, exchanged(ties, 1, 2))
        self.assertIs(closed, False)
        self.assertEqual({thread[1][0], thread[1][-1]}, {(0, 1), (-1, 0)})

    def test_a_closed_one_and_one_that_ends_at_a_hole_of_it(self):
        for face in FACES:
            lines = {"front": [EAST], "back": [EAST]}
            lines[face] = [NORTH, EAST]
            work = (lines["front"], lines["back"])
            ties = [((1, 0), EAST, EAST), (MIDDLE, EAST, EAST)]
            self.assertEqual(sorted(closed for thread, closed in threads_by(work, ties)), [False, True])
            (thread, closed), = self.assert_rows(work, retied(work, ties, 1, face, NORTH))
            self.assertIs(closed, False)
            self.assertEqual({thread[1][0], thread[1][-1]}, {(0, 1), MIDDLE})
            self.assertEqual(len(thread[1]), 4)

    def test_of_some_ties_by_every_exchange(self):
        kinds = set()
        for at, (work, ties) in enumerate(some_tied(60)):
            rows = self.by_stitch(work, ties)
            pairs = [(one, other) for one in range(len(ties)) for other in range(one) if ties[one][0] == ties[other][0]]
            for one, other in pairs[:40]:
                (first, first_closed), (second, second_closed) = (rows["front", ties[each][1]] for each in (one, other))
                if first != second and (first_closed or second_closed):
                    with self.subTest(at=at, one=one, other=other):
                        self.assert_one_of_two(work, ties, exchanged(ties, one, other), first, second)
                        kinds.add((first_closed, second_closed))
        self.assertEqual(kinds, {(True, True), (True, False), (False, True)})

    def test_of_some_ties_by_every_other_line(self):
        kinds = set()
        for at, (work, ties) in enumerate(some_tied(90)):
            rows = self.by_stitch(work, ties)
            ends = {(thread[1][place], *sewn(thread)[place]) for thread, closed in threads_by(work, ties)
                    for place in (0, -1) if not closed}
            tries = [(place, end) for place, tie in enumerate(ties) for end in sorted(ends) if end[0] == tie[0]]
            for place, (hole, face, line) in tries[:40]:
                first, closed = rows["front", ties[place][1]]
                if closed:
                    with self.subTest(at=at, place=place):
                        told = retied(work, ties, place, face, line)
                        self.assert_one_of_two(work, ties, told, first, rows[face, line][0])
                        kinds.add(face)
        self.assertEqual(kinds, set(FACES))


class AskersOwnTest(AskersOwn, unittest.TestCase):
    def askings(self):
        works = [made([], []), made([EAST], [EAST]), made(SQUARE, SQUARE), made(SQUARE, moved(SQUARE, 1))]
        askings = [(threads_by, (work, plain_ties(work))) for work in works]
        return askings + [(threads_by, each) for each in some_tied(6)]
