"""Promises 7 and 8, pictures turned, mirrored and moved, and promise 2 as far as it speaks of them."""

import unittest

from bothfaces.errors import NoHole
from bothfaces.lines import is_line
from bothfaces.pictures import picture
from bothfaces.turnings import behind, moved, turned, turned_hole
from tests.askers import AskersOwn

FAR = 10 ** 9
WAYS = range(8)
# Where the hole (5, 2) comes to by each of the eight turnings, each drawn on paper.
FIVE_TWO = ((5, 2), (-2, 5), (-5, -2), (2, -5), (-5, 2), (-2, -5), (5, -2), (2, 5))
HOLES = (
    (0, 0), (1, 0), (0, 1), (5, 2), (-3, 7), (-4, -9), (8, -1), (6, 6), (FAR, FAR), (-FAR, FAR), (FAR, -FAR),
    (-FAR, -FAR), (FAR, 3), (-7, -FAR), (0, FAR), (-FAR, 0),
)
HOOK = [(((0, 0), (0, 2)), "red"), (((0, 2), (1, 2)), "blue"), (((1, 2), (4, -1)), "red")]
RIM = [(((-FAR, FAR - 9), (-FAR + 9, FAR)), "red"), (((FAR - 1, -FAR), (FAR, -FAR)), "blue")]


def by_hand(hole, way):
    """The same by complex numbers: a quarter to the left is times i."""
    point = complex(*hole)
    if way >= 4:
        point = -point.conjugate()
    point *= 1j ** (way % 4)
    return (round(point.real), round(point.imag))


class TurnedHoleTest(unittest.TestCase):
    def test_a_hole_on_no_axis(self):
        for way in WAYS:
            with self.subTest(way=way):
                self.assertEqual(turned_hole((5, 2), way), FIVE_TWO[way])

    def test_the_eight_are_unlike(self):
        self.assertEqual(len({turned_hole((5, 2), way) for way in WAYS}), 8)

    def test_one_quarter_and_mirrored_as_the_document_says_it(self):
        for x, y in HOLES:
            self.assertEqual(turned_hole((x, y), 0), (x, y))
            self.assertEqual(turned_hole((x, y), 1), (-y, x))
            self.assertEqual(turned_hole((x, y), 4), (-x, y))
            # mirrored first, and turned behind that
            self.assertEqual(turned_hole((x, y), 5), (-y, -x))

    def test_the_middle_stays(self):
        for way in WAYS:
            self.assertEqual(turned_hole((0, 0), way), (0, 0))

    def test_at_the_bounds(self):
        corners = ((FAR, FAR), (-FAR, FAR), (-FAR, -FAR), (FAR, -FAR))
        for way in range(4):
            for at, corner in enumerate(corners):
                self.assertEqual(turned_hole(corner, way), corners[(at + way) % 4])
                self.assertEqual(turned_hole(corner, way + 4), corners[(1 - at + way) % 4])
        told = [turned_hole((FAR, FAR - 1), way) for way in WAYS]
        self.assertEqual(told, [
            (FAR, FAR - 1), (1 - FAR, FAR), (-FAR, 1 - FAR), (FAR - 1, -FAR),
            (-FAR, FAR - 1), (1 - FAR, -FAR), (FAR, 1 - FAR), (FAR - 1, FAR),
        ])

    def test_many_holes_by_complex_numbers(self):
        for hole in HOLES:
            for way in WAYS:
                with self.subTest(hole=hole, way=way):
                    told = turned_hole(hole, way)
                    self.assertEqual(told, by_hand(hole, way))
                    self.assertIsInstance(told, tuple)
                    self.assertEqual([each.__class__ for each in told], [int, int])

    def test_four_quarters_and_mirrored_twice(self):
        for hole in HOLES:
            there = hole
            for quarter in range(4):
                there = turned_hole(there, 1)
            self.assertEqual(there, hole)
            for way in (2, 4, 5, 6, 7):
                self.assertEqual(turned_hole(turned_hole(hole, way), way), hole)
            self.assertEqual(turned_hole(turned_hole(hole, 1), 3), hole)


class TurnedTest(unittest.TestCase):
    def test_a_hook_turned_by_a_quarter_and_mirrored(self):
        self.assertEqual(turned(HOOK, 1), [
            (((-2, 0), (-2, 1)), "blue"), (((-2, 0), (0, 0)), "red"), (((-2, 1), (1, 4)), "red"),
        ])
        self.assertEqual(turned(HOOK, 4), [
            (((-4, -1), (-1, 2)), "red"), (((-1, 2), (0, 2)), "blue"), (((0, 0), (0, 2)), "red"),
        ])

    def test_by_none_it_is_itself(self):
        for one in ([], HOOK, RIM):
            self.assertEqual(turned(one, 0), one)

    def test_without_lines(self):
        for way in WAYS:
            self.assertEqual(turned([], way), [])

    def test_the_lines_are_those_of_the_turned_holes_in_their_colours(self):
        for one in (HOOK, RIM):
            for way in WAYS:
                with self.subTest(one=one, way=way):
                    wanted = [
                        (tuple(sorted((by_hand(ends[0], way), by_hand(ends[1], way)))), colour)
                        for ends, colour in one
                    ]
                    self.assertEqual(turned(one, way), sorted(wanted))

    def test_it_is_a_picture(self):
        for one in (HOOK, RIM):
            for way in WAYS:
                told = turned(one, way)
                self.assertIsInstance(told, list)
                self.assertEqual(picture(told), told)
                for each, colour in told:
                    self.assertIs(is_line(each), True)

    def test_four_quarters_and_mirrored_twice(self):
        for one in (HOOK, RIM):
            there = one
            for quarter in range(4):
                there = turned(there, 1)
            self.assertEqual(there, one)
            for way in (2, 4, 5, 6, 7):
                self.assertEqual(turned(turned(one, way), way), one)

    def test_a_hundred_and_twenty_lines(self):
        one = [(((0, at), (1 + at % 9, at + 1)), "red") for at in range(120)]
        for way in WAYS:
            back_again = way if way > 3 else -way % 4
            self.assertEqual(len(turned(one, way)), 120)
            self.assertEqual(turned(turned(one, way), back_again), one)


class BehindTest(unittest.TestCase):
    def test_all_pairs_against_both_turnings_of_a_hole(self):
        for first in WAYS:
            for second in WAYS:
                with self.subTest(first=first, second=second):
                    both = by_hand(by_hand((5, 2), first), second)
                    self.assertEqual(behind(first, second), FIVE_TWO.index(both))

    def test_all_pairs_against_both_turnings_of_a_picture(self):
        for first in WAYS:
            for second in WAYS:
                with self.subTest(first=first, second=second):
                    told = behind(first, second)
                    self.assertEqual(turned(HOOK, told), turned(turned(HOOK, first), second))
                    self.assertEqual(told.__class__, int)

    def test_the_order_is_not_free(self):
        self.assertEqual(behind(4, 1), 5)
        self.assertEqual(behind(1, 4), 7)

    def test_none_changes_nothing(self):
        for way in WAYS:
            self.assertEqual((behind(way, 0), behind(0, way)), (way, way))


class MovedTest(unittest.TestCase):
    def assert_moved(self, one, east, north):
        wanted = [
            (((a + east, b + north), (c + east, d + north)), colour) for ((a, b), (c, d)), colour in one
        ]
        self.assertEqual(moved(one, east, north), wanted)

    def assert_refused(self, one, east, north):
        with self.assertRaises(NoHole):
            moved(one, east, north)

    def test_to_each_side(self):
        self.assertEqual(moved([(((0, 0), (1, 2)), "red")], 10, 0), [(((10, 0), (11, 2)), "red")])
        self.assertEqual(moved([(((0, 0), (1, 2)), "red")], 0, -10), [(((0, -10), (1, -8)), "red")])
        for east, north in ((3, 0), (-3, 0), (0, 3), (0, -3), (0, 0), (7, -11), (-123456, 654321)):
            with self.subTest(east=east, north=north):
                self.assert_moved(HOOK, east, north)

    def test_by_none_it_is_itself(self):
        for one in ([], HOOK, RIM):
            self.assertEqual(moved(one, 0, 0), one)

    def test_just_to_the_bounds_and_one_beyond(self):
        # the hook reaches from 0 to 4 in x and from -1 to 2 in y
        for east, north, beyond in (
            (FAR - 4, 0, (1, 0)), (-FAR, 0, (-1, 0)), (0, FAR - 2, (0, 1)), (0, -FAR + 1, (0, -1)),
        ):
            with self.subTest(east=east, north=north):
                self.assert_moved(HOOK, east, north)
                self.assert_refused(HOOK, east + beyond[0], north + beyond[1])

    def test_one_hole_beyond_is_enough(self):
        for ends in (((0, 0), (9, 9)), ((0, 9), (9, 0))):
            one = [(ends, "red")]
            for east, north in ((FAR - 8, 0), (0, FAR - 8), (-FAR - 1, 0), (0, -FAR - 1)):
                with self.subTest(ends=ends, east=east, north=north):
                    self.assert_refused(one, east, north)
        self.assert_refused(HOOK + [(((FAR - 1, 0), (FAR, 0)), "red")], 1, 0)
        self.assert_refused([(((-FAR, 0), (1 - FAR, 0)), "red")] + HOOK, -1, 0)

    def test_from_bound_to_bound(self):
        self.assertEqual(moved([(((-FAR, 0), (1 - FAR, 0)), "red")], 2 * FAR - 1, FAR), [
            (((FAR - 1, FAR), (FAR, FAR)), "red"),
        ])
        for east, north in ((1, 0), (-1, 0), (0, 1), (0, -1)):
            self.assert_refused(RIM, east, north)

    def test_numbers_of_up_to_sixty_figures(self):
        for figures in (10, 11, 18, 19, 20, 39, 59, 60):
            for much in (10 ** figures - 1, 10 ** (figures - 1) + FAR, -10 ** figures + 1):
                with self.subTest(much=much):
                    self.assert_refused(HOOK, much, 0)
                    self.assert_refused(HOOK, 0, much)
                    self.assert_refused(HOOK, much, much)
                    self.assert_refused(HOOK, much, -much)

    def test_there_and_back(self):
        for one in ([], HOOK):
            for east, north in ((5, -6), (FAR - 4, -FAR + 1), (-FAR, FAR - 2), (1, 0)):
                self.assertEqual(moved(moved(one, east, north), -east, -north), one)

    def test_without_lines_it_is_moved_by_any_numbers(self):
        for much in (0, 1, -FAR, FAR + 1, 10 ** 60 - 1, 1 - 10 ** 60):
            self.assertEqual(moved([], much, -much), [])

    def test_it_is_a_picture(self):
        for east, north in ((4, 4), (-400, 3), (FAR - 4, FAR - 2)):
            told = moved(HOOK, east, north)
            self.assertEqual(picture(told), told)
            for each, colour in told:
                self.assertIs(is_line(each), True)


class AskersOwnTest(AskersOwn, unittest.TestCase):
    def askings(self):
        ones = ([], HOOK, RIM)
        return (
            tuple((turned, (list(one), way)) for one in ones for way in WAYS)
            + tuple((moved, (list(one), 0, 0)) for one in ones)
            + ((moved, (list(HOOK), 7, -FAR + 1)), (moved, ([], FAR, 10 ** 40)))
            + ((turned_hole, ((3, 4), 6)), (behind, (5, 6)))
        )

    def refusals(self):
        return ((NoHole, moved, (list(HOOK), FAR, 0)), (NoHole, moved, (list(RIM), 0, -1)))
