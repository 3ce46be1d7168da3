"""Promises 20 and 22, plain ties, ties exchanged and given other lines, and promise 2 as far as it speaks of them."""

import collections
import unittest

from bothfaces.errors import NoTie
from bothfaces.ties import exchanged, plain_ties, retied
from tests.askers import AskersOwn
from tests.sewing import (
    AFAR, EAST, FACES, FAR, MIDDLE, NORTH, RIGHT, SLANT, SOUTH, SQUARE, TOP, WEST, heaps, made, sewn, some_tied,
    some_works, stitches_asked, way,
)
from tests.things import NO_NUMBERS

CROSS = [WEST, SOUTH, NORTH, EAST]


def are_ties(work, ties):
    """Whether these are ties of the work, by promise 20 word by word."""
    for hole, one, other in ties:
        if one not in work[0] or other not in work[1] or hole not in one or hole not in other:
            return False
    ends = [(side, tie[0], tie[side]) for tie in ties for side in (1, 2)]
    return len(set(ends)) == len(ends)


def tied(ties):
    """The ends that are tied, as (face, line, hole)."""
    return {(face, tie[side], tie[0]) for tie in ties for side, face in enumerate(FACES, 1)}


class PlainTiesTest(unittest.TestCase):
    def assert_ties(self, work, *wanted):
        told = plain_ties(work)
        self.assertEqual(told, list(wanted))
        self.assertIsInstance(told, list)
        for tie in told:
            self.assertIsInstance(tie, tuple)

    def test_without_lines(self):
        self.assert_ties(([], []))

    def test_of_one_face_alone(self):
        for lines in ([EAST], SQUARE, CROSS, way(*((x, 0) for x in range(121)))):
            self.assert_ties(made(lines, []))
            self.assert_ties(made([], lines))

    def test_one_front_line_and_one_back_line(self):
        self.assert_ties(([EAST], [NORTH]), (MIDDLE, EAST, NORTH))
        self.assert_ties(([NORTH], [EAST]), (MIDDLE, NORTH, EAST))
        self.assert_ties(([EAST], [SLANT]), ((1, 0), EAST, SLANT))
        self.assert_ties(([EAST], [TOP]))

    def test_a_line_that_is_in_both_faces(self):
        self.assert_ties(([EAST], [EAST]), ((0, 0), EAST, EAST), ((1, 0), EAST, EAST))
        self.assert_ties(([AFAR], [AFAR]), (AFAR[0], AFAR, AFAR), (AFAR[1], AFAR, AFAR))

    def test_as_many_on_both_faces(self):
        self.assert_ties(
            made(SQUARE, SQUARE),
            ((0, 0), NORTH, NORTH), ((0, 0), EAST, EAST), ((0, 1), NORTH, NORTH), ((0, 1), TOP, TOP),
            ((1, 0), EAST, EAST), ((1, 0), RIGHT, RIGHT), ((1, 1), TOP, TOP), ((1, 1), RIGHT, RIGHT),
        )
        # two of each face at one hole, the first with the first
        self.assert_ties(made([WEST, NORTH], [SOUTH, EAST]), (MIDDLE, WEST, SOUTH), (MIDDLE, NORTH, EAST))
        self.assert_ties(made([SOUTH, EAST], [WEST, NORTH]), (MIDDLE, SOUTH, WEST), (MIDDLE, EAST, NORTH))
        self.assert_ties(made([NORTH, EAST], [WEST, SOUTH]), (MIDDLE, NORTH, WEST), (MIDDLE, EAST, SOUTH))

    def test_more_of_the_front(self):
        self.assert_ties(made(CROSS[1:], CROSS[:1]), (MIDDLE, SOUTH, WEST))
        self.assert_ties(made([WEST, SOUTH, EAST], [NORTH]), (MIDDLE, WEST, NORTH))
        self.assert_ties(
            made(CROSS, [SOUTH, NORTH]),
            ((0, -1), SOUTH, SOUTH), (MIDDLE, WEST, SOUTH), (MIDDLE, SOUTH, NORTH), ((0, 1), NORTH, NORTH),
        )

    def test_fewer_of_the_front(self):
        self.assert_ties(made(CROSS[:1], CROSS[1:]), (MIDDLE, WEST, SOUTH))
        self.assert_ties(made([NORTH], [WEST, SOUTH, EAST]), (MIDDLE, NORTH, WEST))
        self.assert_ties(
            made([SOUTH, NORTH], CROSS),
            ((0, -1), SOUTH, SOUTH), (MIDDLE, SOUTH, WEST), (MIDDLE, NORTH, SOUTH), ((0, 1), NORTH, NORTH),
        )

    def test_the_holes_come_in_their_order(self):
        holes = [(10, 0), (9, 3), (2, 7), (2, -1), (-1, 2), (-2, 10)]
        lines = [((x - 9, y), (x, y)) for x, y in holes]
        told = plain_ties(made(lines, [((x - 9, y + 1), (x, y)) for x, y in holes]))
        self.assertEqual([hole for hole, one, other in told], sorted(holes))

    def test_the_order_of_lines_is_by_both_ends(self):
        # Those that end at the hole go ahead of those that begin there.
        front = [((-1, 9), (0, 0)), ((0, 0), (0, 5)), ((-2, 0), (0, 0)), ((0, 0), (1, -9))]
        back = [((0, 0), (0, 4)), ((0, 0), (9, 9)), ((-1, 8), (0, 0)), ((-9, 0), (0, 0))]
        self.assert_ties(made(front, back), *(
            (MIDDLE, one, other) for one, other in zip(sorted(front), sorted(back))
        ))

    def test_many_lines_at_one_hole(self):
        star = sorted(
            tuple(sorted(((0, 0), (x, y)))) for x in range(-5, 6) for y in range(-5, 6) if (x, y) != (0, 0)
        )
        told = plain_ties((star, star[:70]))
        self.assertEqual([tie for tie in told if tie[0] == MIDDLE], [(MIDDLE, line, line) for line in star[:70]])
        told = plain_ties((star[:50], star[50:]))
        self.assertEqual(told, [(MIDDLE, one, other) for one, other in zip(star[:50], star[50:])])

    def test_of_some_works_hole_by_hole(self):
        for at, work in enumerate(some_works(120)):
            with self.subTest(at=at):
                wanted = []
                for hole in sorted({hole for face, line in stitches_asked(work) for hole in line}):
                    front, back = ([line for line in lines if hole in line] for lines in work)
                    many = min(len(front), len(back))
                    wanted += [(hole, front[place], back[place]) for place in range(many)]
                self.assert_ties(work, *wanted)
                self.assertTrue(are_ties(work, wanted))

    def test_somewhat_more_lines_are_not_refused(self):
        lines = way(*((x, 0) for x in range(141)))
        self.assertEqual(len(plain_ties((lines, lines))), 280)


class ExchangedTest(unittest.TestCase):
    FOUR = [(MIDDLE, EAST, WEST), ((1, 0), EAST, SLANT), (MIDDLE, NORTH, SOUTH), (MIDDLE, SOUTH, EAST)]

    def assert_refused(self, ties, one, other):
        before = list(ties)
        with self.assertRaises(NoTie):
            exchanged(ties, one, other)
        self.assertEqual(ties, before)

    def test_two_ties_at_one_hole(self):
        wanted = [(MIDDLE, EAST, SOUTH), ((1, 0), EAST, SLANT), (MIDDLE, NORTH, WEST), (MIDDLE, SOUTH, EAST)]
        self.assertEqual(exchanged(self.FOUR, 0, 2), wanted)
        self.assertEqual(exchanged(self.FOUR, 2, 0), wanted)
        self.assertEqual(exchanged(self.FOUR, 2, 3), self.FOUR[:2] + [(MIDDLE, NORTH, EAST), (MIDDLE, SOUTH, SOUTH)])
        self.assertEqual(exchanged(self.FOUR, 0, 3), [
            (MIDDLE, EAST, EAST), self.FOUR[1], self.FOUR[2], (MIDDLE, SOUTH, WEST),
        ])

    def test_exchanged_again_they_are_as_they_were(self):
        for one, other in ((0, 2), (2, 0), (2, 3), (0, 3), (3, 0)):
            self.assertEqual(exchanged(exchanged(self.FOUR, one, other), one, other), self.FOUR)
            self.assertEqual(exchanged(exchanged(self.FOUR, one, other), other, one), self.FOUR)

    def test_places_that_are_none_of_the_list(self):
        for place in (-1, -2, -3, -4, -5, 4, 5, 100, 10 ** 59, -10 ** 59):
            for right in (0, 2, 3):
                with self.subTest(place=place, right=right):
                    self.assert_refused(self.FOUR, place, right)
                    self.assert_refused(self.FOUR, right, place)
            self.assert_refused(self.FOUR, place, place)
            self.assert_refused(self.FOUR, place, -1)
            self.assert_refused(self.FOUR, 4, place)
        for one, other in ((0, 0), (0, 1), (-1, 0), (1, 0), (0, -1)):
            self.assert_refused([], one, other)
            self.assert_refused(self.FOUR[:1], one, other)

    def test_one_place_twice(self):
        for place in range(4):
            self.assert_refused(self.FOUR, place, place)

    def test_two_ties_at_unlike_holes(self):
        for place in (0, 2, 3):
            self.assert_refused(self.FOUR, place, 1)
            self.assert_refused(self.FOUR, 1, place)
        # the same two lines, at either end
        both = plain_ties(([EAST], [EAST]))
        self.assert_refused(both, 0, 1)
        self.assert_refused(both, 1, 0)

    def test_places_of_other_kinds_are_none(self):
        for thing in NO_NUMBERS:
            self.assert_refused(self.FOUR, thing, 2)
            self.assert_refused(self.FOUR, 2, thing)

    def test_of_some_ties(self):
        for at, (work, ties) in enumerate(some_tied(40)):
            with self.subTest(at=at):
                by_hole = collections.defaultdict(list)
                for place, tie in enumerate(ties):
                    by_hole[tie[0]].append(place)
                for places in [places for places in by_hole.values() if len(places) > 1][:5]:
                    one, other = places[0], places[-1]
                    told = exchanged(ties, one, other)
                    self.assertTrue(are_ties(work, told))
                    self.assertEqual([tie[:2] for tie in told], [tie[:2] for tie in ties])
                    backs = [tie[2] for tie in ties]
                    backs[one], backs[other] = backs[other], backs[one]
                    self.assertEqual([tie[2] for tie in told], backs)
                    self.assertEqual(tied(told), tied(ties))


class RetiedTest(unittest.TestCase):
    WORK = made([WEST, NORTH, EAST, TOP], [SOUTH, NORTH, EAST, SLANT])
    TIES = [((1, 0), EAST, SLANT), (MIDDLE, NORTH, EAST)]

    def assert_refused(self, at, face, line, ties=None):
        given = list(self.TIES if ties is None else ties)
        before = list(given)
        with self.assertRaises(NoTie):
            retied(self.WORK, given, at, face, line)
        self.assertEqual(given, before)

    def test_a_free_line_of_the_front(self):
        self.assertEqual(retied(self.WORK, self.TIES, 1, "front", WEST), [self.TIES[0], (MIDDLE, WEST, EAST)])
        # tied at its other end, but free at this one
        self.assertEqual(retied(self.WORK, self.TIES, 1, "front", EAST), [self.TIES[0], (MIDDLE, EAST, EAST)])

    def test_a_free_line_of_the_back(self):
        self.assertEqual(retied(self.WORK, self.TIES, 1, "back", SOUTH), [self.TIES[0], (MIDDLE, NORTH, SOUTH)])
        # its front line is tied there, but on the other face
        self.assertEqual(retied(self.WORK, self.TIES, 1, "back", NORTH), [self.TIES[0], (MIDDLE, NORTH, NORTH)])
        self.assertEqual(retied(self.WORK, self.TIES, 0, "back", EAST), [((1, 0), EAST, EAST), self.TIES[1]])

    def test_the_line_that_it_had_is_free_then(self):
        told = retied(self.WORK, self.TIES, 1, "front", WEST)
        self.assertEqual(retied(self.WORK, told, 1, "front", NORTH), self.TIES)
        told = retied(self.WORK, self.TIES, 1, "back", SOUTH)
        self.assertEqual(retied(self.WORK, told, 1, "back", EAST), self.TIES)

    def test_a_line_that_does_not_end_at_the_hole(self):
        self.assert_refused(1, "front", TOP)
        self.assert_refused(1, "back", SLANT)
        self.assert_refused(0, "front", WEST)
        self.assert_refused(0, "front", NORTH)
        self.assert_refused(0, "back", SOUTH)
        self.assert_refused(0, "back", NORTH)

    def test_a_line_that_is_tied_there_already(self):
        ties = self.TIES + [(MIDDLE, WEST, SOUTH)]
        for at, face, line in ((1, "front", WEST), (2, "front", NORTH), (1, "back", SOUTH), (2, "back", EAST)):
            self.assert_refused(at, face, line, ties)
            self.assert_refused(at - 1, face, line, ties[1:])

    def test_its_own_line(self):
        self.assert_refused(0, "front", EAST)
        self.assert_refused(0, "back", SLANT)
        self.assert_refused(1, "front", NORTH)
        self.assert_refused(1, "back", EAST)

    def test_no_line_of_this_face(self):
        self.assert_refused(1, "front", SOUTH)
        self.assert_refused(1, "back", WEST)
        self.assert_refused(0, "front", SLANT)
        self.assert_refused(0, "back", RIGHT)
        self.assert_refused(0, "front", RIGHT)
        self.assert_refused(1, "front", ((0, 0), (5, 5)))
        for line in (AFAR, ((1, 0), (0, 0)), WEST[::-1], NORTH[:1], (), None, "", 0, [WEST], list(WEST)):
            for face in FACES:
                self.assert_refused(1, face, line)

    def test_a_place_that_is_none(self):
        for at in (-1, -2, -3, 2, 3, 100, 10 ** 59):
            for face, line in (("front", WEST), ("back", SOUTH), ("front", NORTH), ("back", EAST)):
                with self.subTest(at=at, line=line):
                    self.assert_refused(at, face, line)
        self.assert_refused(0, "front", WEST, [])
        self.assert_refused(-1, "front", WEST, [])
        for thing in NO_NUMBERS:
            self.assert_refused(thing, "front", WEST)
            self.assert_refused(thing, "back", SOUTH)

    def test_what_is_neither_front_nor_back(self):
        for face in ("", "Front", "fron", "both"):
            for line in (WEST, SOUTH):
                self.assert_refused(1, face, line)

    def test_lines_somewhat_beyond_are_not_refused_for_it(self):
        far = [((0, 0), (12, 0)), ((0, 0), (0, FAR + 5))]
        for face in FACES:
            work = made([EAST] + far, [EAST] + far)
            ties = [(MIDDLE, EAST, EAST)]
            for line in far:
                told = (MIDDLE, line, EAST) if face == "front" else (MIDDLE, EAST, line)
                self.assertEqual(retied(work, ties, 0, face, line), [told])

    def test_of_some_ties_every_line_at_the_hole(self):
        kinds = collections.Counter()
        for at, (work, ties) in enumerate(some_tied(60)):
            ends = tied(ties)
            for place, tie in list(enumerate(ties))[:6]:
                for face, line in stitches_asked(work):
                    free = tie[0] in line and (face, line, tie[0]) not in ends
                    kinds[face, free] += 1
                    with self.subTest(at=at, place=place, face=face, line=line):
                        if not free:
                            with self.assertRaises(NoTie):
                                retied(work, ties, place, face, line)
                            continue
                        told = retied(work, ties, place, face, line)
                        own = (tie[0], line, tie[2]) if face == "front" else (tie[0], tie[1], line)
                        self.assertEqual(told, ties[:place] + [own] + ties[place + 1:])
                        self.assertTrue(are_ties(work, told))
        self.assertGreater(min(kinds[face, free] for face in FACES for free in (True, False)), 50)


class AskersOwnTest(AskersOwn, unittest.TestCase):
    def askings(self):
        works = [made([], []), made(SQUARE, SQUARE), made(CROSS, [WEST, SOUTH])] + some_works(4)
        work = made(SQUARE, SQUARE)
        askings = [(plain_ties, (each,)) for each in works]
        askings += [(exchanged, (plain_ties(work), one, other)) for one, other in ((0, 1), (1, 0), (6, 7))]
        askings += [(retied, (work, [(MIDDLE, EAST, EAST)], 0, face, NORTH)) for face in FACES]
        return askings

    def refusals(self):
        work = made(SQUARE, SQUARE)
        ties = plain_ties(work)
        return [
            (NoTie, exchanged, (ties, 0, 2)), (NoTie, exchanged, (ties, 0, -1)), (NoTie, exchanged, (ties, 3, 3)),
            (NoTie, exchanged, (ties, 0, 8)), (NoTie, retied, (work, ties, 0, "front", EAST)),
            (NoTie, retied, (work, ties, 9, "front", EAST)), (NoTie, retied, (work, ties, 0, "back", AFAR)),
        ]


class SewnTest(unittest.TestCase):
    """The tests' own reckonings, on which the others lean."""

    def test_sewn(self):
        self.assertEqual(sewn(("back", ((1, 0), (0, 0), (0, 1)))), [("back", EAST), ("front", NORTH)])

    def test_heaps(self):
        work = made([EAST, TOP], [EAST, NORTH])
        self.assertEqual(heaps(work, []), [(stitch,) for stitch in sorted(stitches_asked(work))])
        self.assertEqual(heaps(work, [((0, 0), EAST, NORTH), ((1, 0), EAST, EAST)]), [
            (("back", NORTH), ("back", EAST), ("front", EAST)), (("front", TOP),),
        ])

    def test_are_ties(self):
        work = made([EAST, WEST], [NORTH])
        self.assertTrue(are_ties(work, [(MIDDLE, EAST, NORTH)]))
        for ties in ([(MIDDLE, EAST, NORTH), (MIDDLE, WEST, NORTH)], [(MIDDLE, NORTH, EAST)], [((1, 0), EAST, NORTH)]):
            self.assertFalse(are_ties(work, ties))

    def test_some_tied(self):
        for work, ties in some_tied(40):
            self.assertTrue(are_ties(work, ties))
