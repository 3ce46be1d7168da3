"""Promise 4, holes and lines, and promise 2 as far as it speaks of them."""

import unittest

from bothfaces.errors import NoLine
from bothfaces.lines import is_hole, is_line, line
from tests.things import BEYOND, FAR, NO_HOLES, NO_NUMBERS

AT_THE_RIM = ((-FAR, 0), (FAR, 0), (0, -FAR), (0, FAR), (-FAR, -FAR), (FAR, FAR), (-FAR, FAR), (FAR, -FAR))


class HoleTest(unittest.TestCase):
    def assert_no_hole(self, thing):
        self.assertIs(is_hole(thing), False)

    def test_near_the_middle(self):
        for x in range(-3, 4):
            for y in range(-3, 4):
                self.assertIs(is_hole((x, y)), True)

    def test_at_the_rim(self):
        for hole in AT_THE_RIM:
            with self.subTest(hole=hole):
                self.assertIs(is_hole(hole), True)

    def test_one_beyond_and_far_beyond_the_rim(self):
        for hole in BEYOND:
            with self.subTest(hole=hole):
                self.assert_no_hole(hole)

    def test_what_is_no_whole_number_in_either_place(self):
        for at, thing in enumerate(NO_NUMBERS):
            with self.subTest(at=at):
                self.assert_no_hole((thing, 0))
                self.assert_no_hole((0, thing))
                self.assert_no_hole((thing, thing))

    def test_things_of_other_kinds(self):
        for at, thing in enumerate(NO_HOLES):
            with self.subTest(at=at):
                self.assert_no_hole(thing)

    def test_a_line(self):
        self.assert_no_hole(((0, 0), (1, 1)))


class MadeLineTest(unittest.TestCase):
    def assert_line(self, one, other):
        lesser, greater = sorted((one, other))
        for made in (line(one, other), line(other, one)):
            self.assertEqual(made, (lesser, greater))
            self.assertIsInstance(made, tuple)
            self.assertIs(is_line(made), True)

    def assert_no_line(self, one, other):
        for first, second in ((one, other), (other, one)):
            with self.assertRaises(NoLine):
                line(first, second)
            self.assertIs(is_line((first, second)), False)

    def test_the_lesser_hole_stands_first(self):
        self.assertEqual(line((0, 0), (1, 0)), ((0, 0), (1, 0)))
        self.assertEqual(line((1, 0), (0, 0)), ((0, 0), (1, 0)))
        # x goes ahead of y
        self.assertEqual(line((1, -5), (0, 3)), ((0, 3), (1, -5)))
        self.assertEqual(line((0, 3), (1, -5)), ((0, 3), (1, -5)))
        # y where x are alike
        self.assertEqual(line((2, 7), (2, -1)), ((2, -1), (2, 7)))
        self.assertEqual(line((-1, 0), (-2, 0)), ((-2, 0), (-1, 0)))
        self.assertEqual(line((10, 0), (9, 0)), ((9, 0), (10, 0)))

    def test_just_what_lies_within_nine_either_way(self):
        for here in ((0, 0), (5, -7)):
            for east in range(-12, 13):
                for north in range(-12, 13):
                    there = (here[0] + east, here[1] + north)
                    with self.subTest(here=here, there=there):
                        if here != there and -9 <= east <= 9 and -9 <= north <= 9:
                            self.assert_line(here, there)
                        else:
                            self.assert_no_line(here, there)

    def test_nine_and_ten_apart(self):
        for there in ((9, 0), (0, 9), (9, 9), (-9, 9), (9, -9), (-9, -9), (9, 1), (1, 9)):
            self.assert_line((0, 0), there)
        for there in ((10, 0), (0, 10), (10, 9), (9, 10), (10, 10), (-10, 0), (0, -10), (10, 1), (FAR, 0)):
            self.assert_no_line((0, 0), there)

    def test_the_same_hole_twice(self):
        for hole in ((0, 0), (3, -4)) + AT_THE_RIM:
            self.assert_no_line(hole, hole)

    def test_at_the_rim(self):
        self.assert_line((FAR, FAR), (FAR - 9, FAR - 9))
        self.assert_line((-FAR, -FAR), (-FAR, -FAR + 9))
        self.assert_line((-FAR, FAR), (-FAR + 9, FAR))
        self.assert_no_line((FAR, FAR), (FAR - 10, FAR))
        self.assert_no_line((FAR, 0), (-FAR, 0))

    def test_over_the_rim(self):
        self.assert_no_line((FAR, 0), (FAR + 1, 0))
        self.assert_no_line((0, FAR), (0, FAR + 1))
        self.assert_no_line((-FAR, 0), (-FAR - 1, 0))
        self.assert_no_line((0, -FAR), (0, -FAR - 1))
        self.assert_no_line((FAR + 1, 0), (FAR + 2, 0))

    def test_what_is_no_hole_first_or_second(self):
        for at, thing in enumerate(NO_HOLES + BEYOND):
            with self.subTest(at=at):
                self.assert_no_line((0, 0), thing)

    def test_what_is_no_number_within_a_hole(self):
        for at, thing in enumerate(NO_NUMBERS):
            with self.subTest(at=at):
                self.assert_no_line((0, 3), (thing, 0))
                self.assert_no_line((3, 0), (0, thing))

    def test_two_things_that_are_no_holes(self):
        for at, thing in enumerate(NO_HOLES):
            with self.subTest(at=at):
                self.assert_no_line(thing, thing)

    def test_what_is_handed_in_stays_behind_a_refusal(self):
        one = [0, 0]
        other = [1, [2]]
        with self.assertRaises(NoLine):
            line(one, other)
        self.assertEqual((one, other), ([0, 0], [1, [2]]))
        self.assertEqual(line((0, 0), (1, 2)), ((0, 0), (1, 2)))


class IsLineTest(unittest.TestCase):
    def assert_not(self, thing):
        self.assertIs(is_line(thing), False)

    def test_a_line(self):
        for thing in (((0, 0), (0, 1)), ((0, 0), (1, -9)), ((-9, 4), (0, -5)), ((FAR - 1, FAR), (FAR, FAR))):
            self.assertIs(is_line(thing), True)

    def test_a_line_turned_about(self):
        for thing in (((0, 1), (0, 0)), ((1, -9), (0, 0)), ((1, 0), (0, 5))):
            self.assert_not(thing)

    def test_a_list_in_the_place_of_a_tuple(self):
        self.assert_not([(0, 0), (0, 1)])
        self.assert_not(([0, 0], (0, 1)))
        self.assert_not(((0, 0), [0, 1]))
        self.assert_not([[0, 0], [0, 1]])

    def test_a_hole(self):
        for hole in ((0, 0), (0, 1)) + AT_THE_RIM:
            self.assert_not(hole)

    def test_one_hole_or_three(self):
        self.assert_not(((0, 0),))
        self.assert_not(((0, 0), (0, 1), (0, 2)))
        self.assert_not(((0, 0), (0, 1), "red"))

    def test_truths_in_the_place_of_numbers(self):
        self.assert_not(((False, 0), (1, 1)))
        self.assert_not(((0, 0), (1, True)))

    def test_things_of_other_kinds(self):
        for at, thing in enumerate(NO_NUMBERS + NO_HOLES):
            with self.subTest(at=at):
                self.assert_not(thing)
                self.assert_not((thing, (0, 0)))
                self.assert_not(((0, 0), thing))
                self.assert_not((thing, thing))
