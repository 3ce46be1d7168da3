"""Promises 9 and 10, pictures joined, homes and forms, and promise 2 as far as it speaks of them."""

import itertools
import unittest

from bothfaces.errors import TooMany, TwoColours
from bothfaces.forms import alike_by, form, home, joined, less
from bothfaces.pictures import picture
from bothfaces.turnings import moved, turned
from tests.askers import AskersOwn

FAR = 10 ** 9
WAYS = range(8)
MOVES = ((0, 0), (5, -3), (-1000, 77), (FAR - 30, FAR - 30), (30 - FAR, FAR - 30), (-12, 30 - FAR))
EAST = ((0, 0), (1, 0))
NORTH = ((0, 0), (0, 1))
SLANT = ((0, 1), (1, 0))


def reds(*lines):
    return picture([(line, "red") for line in lines])


def row_of(first, many, colour="red"):
    """So many lines to the north, one beside the other, from this x on."""
    return [(((at, 0), (at, 1)), colour) for at in range(first, first + many)]


SQUARE = reds(EAST, NORTH, ((0, 1), (1, 1)), ((1, 0), (1, 1)))
# Two legs of unlike length, one of them slanting: comes to itself by nothing but 0.
LEGS = reds(((0, 0), (0, 3)), ((0, 3), (2, 4)))
# Named by the turnings that leave them alike.
ALIKE = (
    ((0,), LEGS),
    ((0,), reds(((0, 0), (0, 2)), ((0, 2), (1, 2)))),
    ((0, 4), reds(((0, 0), (1, 2)), ((1, 2), (2, 0)))),
    ((0, 6), reds(((0, 0), (2, 1)), ((0, 2), (2, 1)))),
    ((0, 5), reds(((0, 0), (1, 0)), ((1, 0), (1, 1)))),
    ((0, 7), reds(((0, 0), (1, 0)), ((0, 0), (0, 1)))),
    ((0, 2), reds(((0, 0), (2, 1)))),
    ((0, 2), reds(((0, 0), (0, 2)), ((0, 2), (1, 2)), ((1, 2), (1, 4)))),
    ((0, 2, 4, 6), reds(EAST)),
    ((0, 2, 4, 6), reds(NORTH)),
    ((0, 2, 5, 7), reds(SLANT)),
    ((0, 2, 5, 7), reds(((0, 0), (9, 9)))),
    ((0, 1, 2, 3), reds(((0, 0), (2, 1)), ((-1, 2), (0, 0)), ((-2, -1), (0, 0)), ((0, 0), (1, -2)))),
    ((0, 1, 2, 3, 4, 5, 6, 7), SQUARE),
    ((0, 1, 2, 3, 4, 5, 6, 7), reds(((-1, -1), (0, 0)), ((0, 0), (1, 1)), ((-1, 1), (0, 0)), ((0, 0), (1, -1)))),
    ((0, 1, 2, 3, 4, 5, 6, 7), []),
)
# No two of these are one another turned and moved.
UNLIKE = (
    [],
    reds(EAST),
    [(EAST, "blue")],
    reds(SLANT),
    [(SLANT, "blue")],
    reds(((0, 0), (2, 0))),
    reds(((0, 0), (2, 1))),
    reds(EAST, NORTH),
    [(NORTH, "blue"), (EAST, "red")],
    reds(EAST, ((1, 0), (2, 0))),
    reds(EAST, ((2, 0), (3, 0))),
    reds(EAST, ((0, 1), (1, 1))),
    LEGS,
    [(LEGS[0][0], "red"), (LEGS[1][0], "blue")],
    [(LEGS[0][0], "blue"), (LEGS[1][0], "red")],
    [(LEGS[0][0], "blue"), (LEGS[1][0], "blue")],
    SQUARE,
    SQUARE[1:],
    SQUARE[2:] + [(((1, 1), (2, 1)), "red")],
    SQUARE[:3] + [(SQUARE[3][0], "blue")],
    reds(((0, 0), (2, 1)), ((-1, 2), (0, 0))),
    reds(((0, 0), (2, 1)), ((-2, 1), (0, 0))),
    reds(((0, 0), (2, 1)), ((0, 0), (1, 2))),
)
# From bound to bound, either way about.
WIDE = reds(((-FAR, 0), (1 - FAR, 0)), ((FAR, 3), (FAR, 5)))
HIGH = reds(((-1, FAR - 1), (0, FAR)), ((4, -FAR), (6, -FAR)))
ALL_FOUR = reds(((-FAR, -FAR), (9 - FAR, -FAR)), ((FAR - 2, FAR - 1), (FAR, FAR)))


class JoinedTest(unittest.TestCase):
    def assert_joined(self, one, other, wanted):
        self.assertEqual(joined(one, other), wanted)
        self.assertEqual(joined(other, one), wanted)

    def assert_refused(self, refusal, one, other):
        for first, second in ((one, other), (other, one)):
            with self.assertRaises(refusal):
                joined(first, second)

    def test_the_lines_of_both_sorted(self):
        self.assert_joined(
            [(NORTH, "red"), (SLANT, "blue")],
            [(EAST, "green"), (((-1, 0), (0, 0)), "red")][::-1],
            [(((-1, 0), (0, 0)), "red"), (NORTH, "red"), (EAST, "green"), (SLANT, "blue")],
        )

    def test_a_line_of_both_comes_once(self):
        self.assert_joined(reds(NORTH, EAST), reds(EAST, SLANT), reds(NORTH, EAST, SLANT))

    def test_with_itself_and_with_none(self):
        for one in UNLIKE:
            self.assert_joined(one, one, one)
            self.assert_joined(one, [], one)

    def test_two_colours(self):
        self.assert_refused(TwoColours, reds(EAST), [(EAST, "blue")])
        self.assert_refused(TwoColours, reds(NORTH, EAST, SLANT), [(((-1, 0), (0, 0)), "red"), (SLANT, "redd")])

    def test_a_hundred_and_twenty_lines(self):
        self.assert_joined(row_of(0, 60), row_of(60, 60), row_of(0, 120))
        self.assert_joined(row_of(0, 120), [], row_of(0, 120))
        self.assert_joined(row_of(0, 1), row_of(1, 119, "blue"), row_of(0, 1) + row_of(1, 119, "blue"))

    def test_a_hundred_and_twenty_one_lines(self):
        self.assert_refused(TooMany, row_of(0, 60), row_of(60, 61))
        self.assert_refused(TooMany, row_of(0, 120), row_of(120, 1))
        self.assert_refused(TooMany, row_of(0, 120), row_of(120, 120, "blue"))

    def test_lines_of_both_count_once(self):
        self.assert_joined(row_of(0, 120), row_of(0, 120), row_of(0, 120))
        self.assert_joined(row_of(0, 100), row_of(20, 100), row_of(0, 120))
        self.assert_refused(TooMany, row_of(0, 100), row_of(21, 100))

    def test_two_colours_go_ahead_of_too_many(self):
        self.assert_refused(TwoColours, row_of(0, 120), row_of(119, 120, "blue"))
        self.assert_refused(TwoColours, row_of(0, 120), row_of(0, 1, "blue") + row_of(1, 119) + row_of(120, 1))
        self.assert_refused(TwoColours, row_of(0, 120), row_of(100, 19) + row_of(119, 1, "blue") + row_of(120, 9))


class LessTest(unittest.TestCase):
    def test_a_line_of_both_goes(self):
        self.assertEqual(less(reds(NORTH, EAST, SLANT), reds(EAST)), reds(NORTH, SLANT))
        self.assertEqual(less(reds(EAST), reds(NORTH, EAST, SLANT)), [])
        self.assertEqual(less(reds(NORTH, EAST), reds(EAST, SLANT)), reds(NORTH))

    def test_whatever_their_colours(self):
        one = [(NORTH, "red"), (EAST, "blue"), (SLANT, "red")]
        self.assertEqual(less(one, [(EAST, "red"), (SLANT, "green")]), [(NORTH, "red")])
        self.assertEqual(less(one, [(SLANT, "blue")]), [(NORTH, "red"), (EAST, "blue")])

    def test_colours_of_the_one_stay(self):
        one = [(NORTH, "green"), (EAST, "blue"), (SLANT, "red")]
        self.assertEqual(less(one, reds(SLANT, ((5, 5), (6, 6)))), one[:2])

    def test_less_itself_and_less_none(self):
        for one in UNLIKE:
            self.assertEqual(less(one, one), [])
            self.assertEqual(less(one, []), one)
            self.assertEqual(less([], one), [])

    def test_lines_with_one_end_in_common_stay(self):
        self.assertEqual(less(reds(EAST), reds(NORTH, SLANT, ((0, 0), (2, 0)))), reds(EAST))

    def test_many_lines(self):
        self.assertEqual(less(row_of(0, 120), row_of(60, 120, "blue")), row_of(0, 60))
        self.assertEqual(less(row_of(0, 120), row_of(120, 120)), row_of(0, 120))

    def test_what_is_left_joined_to_what_was_taken(self):
        one = row_of(0, 80)
        other = row_of(40, 80)
        self.assertEqual(joined(less(one, other), other), joined(one, other))


class HomeTest(unittest.TestCase):
    def test_on_every_side(self):
        for east in (-50, -1, 0, 1, 50):
            for north in (-50, -1, 0, 1, 50):
                one = reds(((east, north + 3), (east + 2, north)), ((east + 2, north), (east + 7, north + 1)))
                self.assertEqual(home(one), reds(((0, 3), (2, 0)), ((2, 0), (7, 1))))

    def test_the_least_x_and_the_least_y_of_unlike_holes(self):
        self.assertEqual(home(reds(((3, 9), (5, 7)), ((5, 7), (6, 12)))), reds(((0, 2), (2, 0)), ((2, 0), (3, 5))))
        self.assertEqual(home(reds(((-3, -1), (-2, -5)))), reds(((0, 4), (1, 0))))
        # no hole lies at (0, 0)
        self.assertEqual(home(reds(SLANT)), reds(SLANT))

    def test_without_lines(self):
        self.assertEqual(home([]), [])

    def test_from_bound_to_bound(self):
        self.assertEqual(home(WIDE), [
            (((0, 0), (1, 0)), "red"), (((2 * FAR, 3), (2 * FAR, 5)), "red"),
        ])
        self.assertEqual(home(HIGH), [
            (((0, 2 * FAR - 1), (1, 2 * FAR)), "red"), (((5, 0), (7, 0)), "red"),
        ])
        self.assertEqual(home(ALL_FOUR), [
            (((0, 0), (9, 0)), "red"), (((2 * FAR - 2, 2 * FAR - 1), (2 * FAR, 2 * FAR)), "red"),
        ])

    def test_moved_it_has_the_same_home(self):
        for one in UNLIKE:
            for east, north in MOVES:
                self.assertEqual(home(moved(one, east, north)), home(one))

    def test_the_home_is_the_picture_moved(self):
        for one in UNLIKE:
            for east, north in MOVES:
                there = moved(one, east, north)
                if not there:
                    continue
                holes = [hole for ends, colour in there for hole in ends]
                west = min(x for x, y in holes)
                south = min(y for x, y in holes)
                self.assertEqual(home(there), moved(there, -west, -south))

    def test_the_home_of_a_home(self):
        for one in UNLIKE:
            self.assertEqual(home(home(one)), home(one))

    def test_colours_stay(self):
        self.assertEqual(home([(((5, 5), (6, 5)), "blue"), (((5, 6), (6, 6)), "red")]), [
            (EAST, "blue"), (((0, 1), (1, 1)), "red"),
        ])


class FormTest(unittest.TestCase):
    def test_by_hand(self):
        self.assertEqual(form([]), [])
        self.assertEqual(form([(((7, 7), (8, 7)), "red")]), [(NORTH, "red")])
        self.assertEqual(form([(((7, 7), (8, 8)), "red")]), [(((0, 0), (1, 1)), "red")])
        self.assertEqual(form(reds(((0, 0), (2, 1)))), reds(((0, 0), (1, 2))))
        self.assertEqual(form([(EAST, "red"), (((1, 0), (2, 0)), "blue")]), [
            (NORTH, "blue"), (((0, 1), (0, 2)), "red"),
        ])

    def test_the_least_of_the_eight_homes(self):
        for one in UNLIKE + (WIDE, HIGH, ALL_FOUR):
            homes = [home(turned(one, way)) for way in WAYS]
            self.assertIn(form(one), homes)
            for other in homes:
                self.assertLessEqual(form(one), other)

    def test_turned_and_moved_it_is_the_same(self):
        for one in UNLIKE:
            for way in WAYS:
                for east, north in MOVES:
                    self.assertEqual(form(moved(turned(one, way), east, north)), form(one))

    def test_unlike_pictures_have_unlike_forms(self):
        for one, other in itertools.combinations(UNLIKE, 2):
            with self.subTest(one=one, other=other):
                self.assertNotEqual(form(one), form(other))

    def test_colours_changed_about(self):
        one = [(NORTH, "blue"), (EAST, "red")]
        other = [(NORTH, "red"), (EAST, "blue")]
        self.assertEqual(form(one), form(other))
        three = ((0, 0), (0, 1)), ((0, 1), (0, 2)), ((0, 2), (0, 3))
        one = list(zip(three, ("red", "red", "blue")))
        self.assertEqual(form(one), form(list(zip(three, ("blue", "red", "red")))))
        self.assertNotEqual(form(one), form(list(zip(three, ("red", "blue", "red")))))

    def test_from_bound_to_bound(self):
        for one in (WIDE, HIGH, ALL_FOUR):
            for way in WAYS:
                self.assertEqual(form(turned(one, way)), form(one))
        self.assertNotEqual(form(WIDE), form(HIGH))
        self.assertEqual(form(WIDE), [(NORTH, "red"), (((3, 2 * FAR), (5, 2 * FAR)), "red")])


class AlikeByTest(unittest.TestCase):
    def test_by_hand(self):
        for ways, one in ALIKE:
            with self.subTest(one=one):
                self.assertEqual(alike_by(one), list(ways))

    def test_moved_anywhere(self):
        for ways, one in ALIKE:
            for east, north in MOVES:
                with self.subTest(one=one, east=east, north=north):
                    self.assertEqual(alike_by(moved(one, east, north)), list(ways))

    def test_one_two_four_and_eight_are_among_these(self):
        self.assertEqual({len(ways) for ways, one in ALIKE}, {1, 2, 4, 8})

    def test_a_colour_alone_makes_it_unlike(self):
        for at in range(4):
            one = list(SQUARE)
            one[at] = (one[at][0], "blue")
            self.assertEqual(len(alike_by(one)), 2)
        one = [(ends, "red" if ends[0][0] == ends[1][0] else "blue") for ends, colour in SQUARE]
        self.assertEqual(alike_by(one), [0, 2, 4, 6])
        self.assertEqual(alike_by([(EAST, "red"), (((1, 0), (2, 0)), "blue")]), [0, 6])

    def test_from_bound_to_bound(self):
        self.assertEqual(alike_by(WIDE), [0])
        corners = reds(*(
            tuple(sorted(((x, y), (x - x // FAR, y)))) for x in (-FAR, FAR) for y in (-FAR, FAR)
        ))
        self.assertEqual(alike_by(corners), [0, 2, 4, 6])


class AskersOwnTest(AskersOwn, unittest.TestCase):
    def askings(self):
        ones = ([], LEGS, SQUARE, WIDE, UNLIKE[-1])
        return (
            tuple((joined, (list(LEGS), list(one))) for one in ([], LEGS, WIDE))
            + ((joined, ([], [])), (joined, ([], list(LEGS))))
            + tuple((less, (list(one), list(other))) for one in ones for other in ([], LEGS, one))
            + tuple((ask, (list(one),)) for ask in (home, form, alike_by) for one in ones)
        )

    def refusals(self):
        return (
            (TwoColours, joined, (reds(EAST), [(EAST, "blue")])),
            (TooMany, joined, (row_of(0, 120), row_of(120, 1))),
            (TwoColours, joined, (row_of(0, 120), row_of(119, 20, "blue"))),
        )
