"""Promises 14 and 16, works and their surplus, and promise 2 as far as it speaks of them."""

import collections
import unittest

from bothfaces.pictures import colours, picture
from bothfaces.works import surplus, work_of
from tests.askers import AskersOwn
from tests.sewing import AFAR, EAST, NORTH, SLANT, WEST, made, some_works

FRONT = [(AFAR, "red"), (WEST, "blue"), (NORTH, "red"), (EAST, "green"), (SLANT, "red")]
BACK = [(WEST, "blue"), (NORTH, "black"), (EAST, "red"), (SLANT, "red")]


def row_of(many, colour):
    return [(((at, 0), (at, 9)), colour) for at in range(many)]


class WorkOfTest(unittest.TestCase):
    def assert_work(self, front, back, colour, wanted):
        told = work_of(front, back, colour)
        self.assertEqual(told, wanted)
        self.assertIsInstance(told, tuple)
        for lines in told:
            self.assertIsInstance(lines, list)

    def test_each_colour_of_two_pictures(self):
        self.assert_work(FRONT, BACK, "red", ([AFAR, NORTH, SLANT], [EAST, SLANT]))
        self.assert_work(FRONT, BACK, "blue", ([WEST], [WEST]))

    def test_a_colour_that_one_of_them_has(self):
        self.assert_work(FRONT, BACK, "green", ([EAST], []))
        self.assert_work(FRONT, BACK, "black", ([], [NORTH]))

    def test_a_colour_that_none_has(self):
        for colour in ("white", "re", "redd", "r", "d"):
            self.assert_work(FRONT, BACK, colour, ([], []))

    def test_front_and_back_changed_about(self):
        for colour in ("red", "blue", "green", "black", "white"):
            front, back = work_of(FRONT, BACK, colour)
            self.assert_work(BACK, FRONT, colour, (back, front))

    def test_a_line_that_both_have_in_one_colour(self):
        self.assert_work([(EAST, "red")], [(EAST, "red")], "red", ([EAST], [EAST]))

    def test_a_line_that_both_have_in_two_colours(self):
        one, other = [(EAST, "red")], [(EAST, "blue")]
        self.assert_work(one, other, "red", ([EAST], []))
        self.assert_work(one, other, "blue", ([], [EAST]))

    def test_one_picture_for_both_faces(self):
        self.assert_work(FRONT, FRONT, "red", ([AFAR, NORTH, SLANT], [AFAR, NORTH, SLANT]))

    def test_without_lines(self):
        self.assert_work([], [], "red", ([], []))
        self.assert_work([], BACK, "red", ([], [EAST, SLANT]))
        self.assert_work(FRONT, [], "red", ([AFAR, NORTH, SLANT], []))

    def test_a_hundred_and_twenty_lines_on_each_face(self):
        lines = [line for line, colour in row_of(120, "red")]
        self.assert_work(row_of(120, "red"), row_of(120, "red"), "red", (lines, lines))
        self.assert_work(row_of(120, "red"), row_of(120, "blue"), "blue", ([], lines))

    def test_every_line_is_in_the_work_of_one_colour(self):
        names = ("red", "blue", "black")
        for at, (front, back) in enumerate(some_works(60)):
            one = picture([(line, names[place * 7 % 3]) for place, line in enumerate(front)])
            other = picture([(line, names[place * 5 % 2]) for place, line in enumerate(back)])
            works = [work_of(one, other, colour) for colour in names]
            with self.subTest(at=at):
                for face, own in enumerate((one, other)):
                    again = [(line, names[k]) for k in range(3) for line in works[k][face]]
                    self.assertEqual(sorted(again), own)
                    for work in works:
                        self.assertEqual(work[face], sorted(set(work[face])))
                self.assertEqual([k for k in names if k not in colours(one) + colours(other)],
                                 [names[k] for k in range(3) if works[k] == ([], [])])


def counted(work):
    """The surplus, from the ends of all lines."""
    front, back = (collections.Counter(hole for line in lines for hole in line) for lines in work)
    holes = sorted(set(front) | set(back))
    return [(hole, front[hole] - back[hole]) for hole in holes if front[hole] != back[hole]]


class SurplusTest(unittest.TestCase):
    def test_front_alone_lies_above_0(self):
        self.assertEqual(surplus(made([EAST], [])), [((0, 0), 1), ((1, 0), 1)])
        self.assertEqual(surplus(made([EAST, NORTH, WEST], [])), [
            ((-1, 0), 1), ((0, 0), 3), ((0, 1), 1), ((1, 0), 1),
        ])

    def test_back_alone_lies_below_0(self):
        self.assertEqual(surplus(made([], [EAST])), [((0, 0), -1), ((1, 0), -1)])
        self.assertEqual(surplus(made([], [EAST, NORTH, WEST])), [
            ((-1, 0), -1), ((0, 0), -3), ((0, 1), -1), ((1, 0), -1),
        ])

    def test_holes_at_which_it_is_0_are_left_out(self):
        self.assertEqual(surplus(made([EAST], [NORTH])), [((0, 1), -1), ((1, 0), 1)])
        self.assertEqual(surplus(made([EAST, NORTH], [WEST])), [((-1, 0), -1), ((0, 0), 1), ((0, 1), 1), ((1, 0), 1)])

    def test_a_line_of_both_faces(self):
        self.assertEqual(surplus(made([EAST], [EAST])), [])
        self.assertEqual(surplus(made([EAST, NORTH], [EAST])), [((0, 0), 1), ((0, 1), 1)])

    def test_alike_on_both_faces(self):
        for front, back in some_works(40):
            self.assertEqual(surplus((front, list(front))), [])
            self.assertEqual(surplus((back, list(back))), [])

    def test_without_lines(self):
        self.assertEqual(surplus(([], [])), [])

    def test_sorted_by_holes_as_numbers(self):
        work = made([((9, 10), (10, 9)), ((-10, 2), (-9, -7))], [((-9, 0), (-2, -1)), ((9, -2), (9, 2))])
        self.assertEqual(surplus(work), [
            ((-10, 2), 1), ((-9, -7), 1), ((-9, 0), -1), ((-2, -1), -1),
            ((9, -2), -1), ((9, 2), -1), ((9, 10), 1), ((10, 9), 1),
        ])

    def test_at_the_rim_of_the_cloth(self):
        self.assertEqual(surplus(([AFAR], [])), [(AFAR[0], 1), (AFAR[1], 1)])

    def test_many_lines_at_one_hole(self):
        around = [(x, y) for x in range(-5, 6) for y in range(-5, 6) if (x, y) != (0, 0)]
        front = [((0, 0), hole) for hole in around]
        told = dict(surplus(made(front, [])))
        self.assertEqual(told, {(0, 0): 120, **{hole: 1 for hole in around}})
        self.assertEqual(surplus(made(front, front[:50]))[60 - 50], ((0, 0), 70))
        self.assertEqual(dict(surplus(made([], front)))[(0, 0)], -120)

    def test_counted_from_the_ends(self):
        for at, work in enumerate(some_works(150)):
            with self.subTest(at=at):
                self.assertEqual(surplus(work), counted(work))

    def test_faces_changed_about_it_has_the_other_sign(self):
        for front, back in some_works(40):
            self.assertEqual(surplus((back, front)), [(hole, -much) for hole, much in surplus((front, back))])

    def test_what_is_told_is_a_list_of_tuples(self):
        told = surplus(made([EAST], []))
        self.assertIsInstance(told, list)
        for pair in told:
            self.assertIsInstance(pair, tuple)


class AskersOwnTest(AskersOwn, unittest.TestCase):
    def askings(self):
        works = ([], []), ([EAST], [EAST]), ([WEST, NORTH], [EAST])
        return (
            tuple((work_of, (list(FRONT), list(BACK), colour)) for colour in ("red", "blue", "green", "white"))
            + ((work_of, ([], [], "red")), (work_of, (row_of(120, "red"), row_of(120, "red"), "red")))
            + tuple((surplus, ((list(front), list(back)),)) for front, back in works)
        )

    def test_one_picture_handed_in_twice(self):
        one = [(EAST, "red"), (SLANT, "red")]
        front, back = work_of(one, one, "red")
        front.append("mine")
        self.assertEqual(back, [EAST, SLANT])
        self.assertEqual(one, [(EAST, "red"), (SLANT, "red")])

    def test_one_list_for_both_faces(self):
        lines = [EAST, SLANT]
        self.assertEqual(surplus((lines, lines)), [])
        self.assertEqual(lines, [EAST, SLANT])
