"""Promise 17, threads, their stitches and threads turned about, and promise 2 as far as it speaks of them."""

import itertools
import unittest

from bothfaces.lines import is_line
from bothfaces.threads import is_thread, stitches, turned_about
from tests.askers import AskersOwn
from tests.sewing import ahead, some_threads, to_and_fro
from tests.things import BEYOND, FAR, NO_HOLES, NO_NUMBERS, Strange

FACES = ("front", "back")
TWO = ((0, 0), (1, 0))
THREE = ((0, 0), (1, 0), (0, 1))
NO_FACES = (
    "", "f", "fron", "frontt", "Front", "FRONT", "front ", " front", "front\n", "bac", "backk", "Back", "back ",
    "frontback", "face", "both", None, True, False, 0, 1, b"front", ("front",), ["front"], ["back"], {"front": True},
    {"front"}, 1.5, str, Strange(),
)


class IsThreadTest(unittest.TestCase):
    def assert_thread(self, thing):
        self.assertIs(is_thread(thing), True)

    def assert_none(self, thing):
        self.assertIs(is_thread(thing), False)

    def assert_no_holes(self, holes):
        for face in FACES:
            self.assert_none((face, holes))

    def test_two_holes_three_and_more(self):
        for face in FACES:
            for many in (2, 3, 4, 5, 10, 100, 398, 399, 400):
                self.assert_thread((face, ahead(many)))
                self.assert_thread((face, to_and_fro(many)))

    def test_four_hundred_and_one_holes(self):
        for many in (401, 402, 500, 1000):
            self.assert_no_holes(ahead(many))
            self.assert_no_holes(to_and_fro(many))

    def test_one_hole_and_none(self):
        self.assert_no_holes(())
        self.assert_no_holes(((0, 0),))
        # a hole is no tuple of holes
        self.assert_no_holes((0, 0))

    def test_a_line_may_come_twice(self):
        self.assert_thread(("front", ((0, 0), (1, 0), (0, 0), (1, 0))))
        self.assert_thread(("back", THREE + THREE))

    def test_a_thread_that_comes_back_to_its_first_hole(self):
        self.assert_thread(("front", ((0, 0), (1, 0), (0, 0))))
        self.assert_thread(("back", THREE + THREE[:1]))

    def test_what_is_neither_front_nor_back(self):
        for at, face in enumerate(NO_FACES):
            with self.subTest(at=at):
                self.assert_none((face, TWO))
                self.assert_none((face, THREE))

    def test_holes_in_a_list(self):
        for holes in (list(TWO), list(THREE), [], list(ahead(400))):
            self.assert_no_holes(holes)

    def test_holes_in_other_kinds(self):
        for holes in ({(0, 0): True, (1, 0): True}, {(0, 0), (1, 0)}, iter(TWO), "ab", range(2), None, 2, True):
            self.assert_no_holes(holes)

    def test_a_hole_that_is_a_list(self):
        self.assert_no_holes(([0, 0], (1, 0)))
        self.assert_no_holes(((0, 0), [1, 0]))
        self.assert_no_holes(((0, 0), (1, 0), [0, 1]))

    def test_a_hole_that_is_none_at_every_place(self):
        for at, thing in enumerate(NO_HOLES + BEYOND):
            for place in range(4):
                holes = list(to_and_fro(4))
                holes[place] = thing
                with self.subTest(at=at, place=place):
                    self.assert_no_holes(tuple(holes))
            self.assert_no_holes((thing, thing))
            self.assert_no_holes((thing,))

    def test_a_hole_of_what_is_no_number(self):
        for at, thing in enumerate(NO_NUMBERS):
            with self.subTest(at=at):
                self.assert_no_holes(((0, 5), (thing, 0)))
                self.assert_no_holes(((5, 0), (0, thing), (1, 1)))

    def test_two_neighbours_that_are_alike(self):
        self.assert_no_holes(((0, 0), (0, 0)))
        for place in range(5):
            holes = ahead(5)
            self.assert_no_holes(holes[:place + 1] + holes[place:])
        holes = ahead(399)
        self.assert_no_holes(holes + holes[-1:])
        self.assert_no_holes(holes[:1] + holes)

    def test_nine_apart_and_ten(self):
        for east, north in ((9, 0), (0, 9), (9, 9), (-9, 9), (9, -9), (-9, -9), (-9, 0), (0, -9)):
            self.assert_thread(("front", ((0, 0), (east, north))))
            self.assert_thread(("back", ((0, 0), (east, north), (0, 0))))
        for east, north in ((10, 0), (0, 10), (10, 10), (-10, 0), (0, -10), (9, 10), (10, -9), (-10, 9), (FAR, 0)):
            self.assert_no_holes(((0, 0), (east, north)))
            self.assert_no_holes(((5, 5), (0, 0), (east, north)))
            self.assert_no_holes(((0, 0), (east, north), (east, north + 1)))

    def test_ten_apart_at_the_far_end(self):
        holes = ahead(399)
        self.assert_thread(("front", holes + ((holes[-1][0] + 9, 0),)))
        self.assert_no_holes(holes + ((holes[-1][0] + 10, 0),))
        self.assert_no_holes(((holes[0][0] - 10, 0),) + holes)

    def test_just_neighbours_are_looked_at(self):
        # The first and the last are alike, or lie far from one another.
        self.assert_thread(("front", ((0, 0), (9, 0), (18, 0))))
        self.assert_thread(("front", ((0, 0), (9, 0), (0, 0), (9, 0))))

    def test_at_the_rim(self):
        self.assert_thread(("front", ((FAR, FAR), (FAR - 9, FAR), (FAR, FAR - 9))))
        self.assert_thread(("back", ((-FAR, -FAR), (-FAR, 9 - FAR))))
        self.assert_no_holes(((FAR, 0), (FAR + 1, 0)))
        self.assert_no_holes(((0, 1 - FAR), (0, -FAR), (0, -FAR - 1)))

    def test_a_tuple_of_none_one_or_three(self):
        for face in FACES:
            for thing in ((), (face,), (TWO,), (face, TWO, None), (face, TWO, TWO), (face, TWO, face), (face,) + TWO,
                          (TWO, face), (TWO, TWO), (face, face)):
                with self.subTest(thing=thing):
                    self.assert_none(thing)

    def test_a_list_in_the_place_of_the_tuple(self):
        for face in FACES:
            self.assert_none([face, TWO])
            self.assert_none([face, list(TWO)])
            self.assert_none({face: TWO})
            self.assert_none([(face, TWO)])
            self.assert_none(((face, TWO),))

    def test_a_colour_beside_it(self):
        self.assert_none(("red", ("front", TWO)))
        self.assert_none(("front", ("front", TWO)))

    def test_things_of_other_kinds(self):
        for at, thing in enumerate(NO_NUMBERS + NO_HOLES + NO_FACES + BEYOND + (-1, 10 ** 59, FACES)):
            with self.subTest(at=at):
                self.assert_none(thing)
                self.assert_none((thing, thing))
                self.assert_none((thing,))
                self.assert_none([thing])
                self.assert_no_holes(thing)

    def test_holes_alone(self):
        for thing in (TWO, THREE, (0, 0), (TWO, THREE), (TWO, TWO)):
            self.assert_none(thing)

    def test_some_threads(self):
        for at, thread in enumerate(some_threads(60)):
            with self.subTest(at=at):
                self.assert_thread(thread)
                self.assert_none((thread[0], list(thread[1])))
                self.assert_none(thread[::-1])


class StitchesTest(unittest.TestCase):
    def test_that_begin_on_the_front(self):
        self.assertEqual(stitches(("front", TWO)), [("front", ((0, 0), (1, 0)))])
        self.assertEqual(stitches(("front", THREE)), [("front", ((0, 0), (1, 0))), ("back", ((0, 1), (1, 0)))])
        self.assertEqual(stitches(("front", THREE + TWO[:1])), [
            ("front", ((0, 0), (1, 0))), ("back", ((0, 1), (1, 0))), ("front", ((0, 0), (0, 1))),
        ])

    def test_that_begin_on_the_back(self):
        self.assertEqual(stitches(("back", TWO)), [("back", ((0, 0), (1, 0)))])
        self.assertEqual(stitches(("back", THREE)), [("back", ((0, 0), (1, 0))), ("front", ((0, 1), (1, 0)))])
        self.assertEqual(stitches(("back", THREE + TWO[:1])), [
            ("back", ((0, 0), (1, 0))), ("front", ((0, 1), (1, 0))), ("back", ((0, 0), (0, 1))),
        ])

    def test_each_line_with_its_lesser_hole_first(self):
        self.assertEqual(stitches(("front", TWO[::-1])), [("front", ((0, 0), (1, 0)))])
        self.assertEqual(stitches(("front", ((2, 7), (2, -1), (1, 5)))), [
            ("front", ((2, -1), (2, 7))), ("back", ((1, 5), (2, -1))),
        ])
        # x goes ahead of y, and both are numbers
        self.assertEqual(stitches(("back", ((10, -5), (9, 3), (-1, 2), (-2, 10)))), [
            ("back", ((9, 3), (10, -5))), ("front", ((-1, 2), (9, 3))), ("back", ((-2, 10), (-1, 2))),
        ])

    def test_a_line_that_comes_again(self):
        self.assertEqual(stitches(("front", to_and_fro(5))), [
            ("front", TWO), ("back", TWO), ("front", TWO), ("back", TWO),
        ])

    def test_four_hundred_holes(self):
        for face, other in (FACES, FACES[::-1]):
            told = stitches((face, ahead(400)))
            self.assertEqual(len(told), 399)
            self.assertEqual([own for own, line in told], [face, other] * 199 + [face])
            self.assertEqual([line for own, line in told], list(zip(ahead(400), ahead(400)[1:])))

    def test_somewhat_more_holes_are_not_refused(self):
        self.assertEqual(len(stitches(("front", ahead(450)))), 449)

    def test_of_some_threads(self):
        for at, thread in enumerate(some_threads(80)):
            with self.subTest(at=at):
                face, holes = thread
                told = stitches(thread)
                self.assertIsInstance(told, list)
                self.assertEqual(len(told), len(holes) - 1)
                for place, stitch in enumerate(told):
                    self.assertIsInstance(stitch, tuple)
                    self.assertEqual(stitch[0] == face, place % 2 == 0)
                    self.assertIn(stitch[0], FACES)
                    self.assertTrue(is_line(stitch[1]))
                    self.assertEqual(sorted(stitch[1]), sorted(holes[place:place + 2]))


class TurnedAboutTest(unittest.TestCase):
    def test_of_an_odd_number_of_stitches(self):
        for face in FACES:
            self.assertEqual(turned_about((face, TWO)), (face, ((1, 0), (0, 0))))
            self.assertEqual(turned_about((face, THREE + ((5, 5),))), (face, ((5, 5), (0, 1), (1, 0), (0, 0))))

    def test_of_an_even_number_of_stitches(self):
        for face, other in (FACES, FACES[::-1]):
            self.assertEqual(turned_about((face, THREE)), (other, ((0, 1), (1, 0), (0, 0))))
            self.assertEqual(turned_about((face, to_and_fro(5))), (other, to_and_fro(5)))

    def test_four_hundred_holes_and_one_less(self):
        for face, other in (FACES, FACES[::-1]):
            self.assertEqual(turned_about((face, ahead(400))), (face, ahead(400)[::-1]))
            self.assertEqual(turned_about((face, ahead(399))), (other, ahead(399)[::-1]))

    def test_its_stitches_are_those_from_the_last_to_the_first(self):
        for at, thread in enumerate(some_threads(80)):
            with self.subTest(at=at):
                self.assertEqual(stitches(turned_about(thread)), stitches(thread)[::-1])

    def test_it_is_a_thread(self):
        for at, thread in enumerate(some_threads(80)):
            with self.subTest(at=at):
                self.assertIs(is_thread(turned_about(thread)), True)

    def test_turned_about_twice_it_is_itself(self):
        for at, thread in enumerate(some_threads(80)):
            with self.subTest(at=at):
                self.assertEqual(turned_about(turned_about(thread)), thread)

    def test_both_faces_and_both_numbers_are_among_these(self):
        kinds = {(face, len(holes) % 2) for face, holes in some_threads(80)}
        self.assertEqual(kinds, set(itertools.product(FACES, (0, 1))))


class AskersOwnTest(AskersOwn, unittest.TestCase):
    def askings(self):
        threads = [(face, holes) for face in FACES for holes in (TWO, THREE, ahead(400))] + some_threads(5)
        things = ([], [["front"], [0, 0]], ("front", [(0, 0), (1, 0)]), ("front", ([0, 0], (1, 0))), ["front", TWO])
        return (
            tuple((ask, (thread,)) for ask in (is_thread, stitches, turned_about) for thread in threads)
            + tuple((is_thread, (thing,)) for thing in things)
        )
