"""Promises 5 and 6, colours and pictures, and promise 2 as far as it speaks of them."""

import itertools
import unittest

from bothfaces.errors import TooMany, TwoColours
from bothfaces.pictures import colours, holes_of, is_colour, lines_of, picture
from tests.askers import AskersOwn

FAR = 10 ** 9
EAST = ((0, 0), (1, 0))
NORTH = ((0, 0), (0, 1))
SLANT = ((0, 1), (1, 0))
AFAR = ((-FAR, FAR), (-FAR + 9, FAR - 9))
SIGNS = [chr(code) for code in range(32, 127)]
SMALL = "abcdefghijklmnopqrstuvwxyz"


def row_of(many, colour="red"):
    """So many unlike lines, of one colour, sorted."""
    return [(((at, 0), (at + 1, 0)), colour) for at in range(many)]


class ColourTest(unittest.TestCase):
    def test_one_letter_to_eight(self):
        for many in range(1, 9):
            self.assertIs(is_colour("a" * many), True)
            self.assertIs(is_colour("z" * many), True)
        for text in ("red", "black", "abcdefgh", "turquois"):
            self.assertIs(is_colour(text), True)

    def test_none_and_nine_letters(self):
        for text in ("", "abcdefghi", "turquoise", "a" * 16, "a" * 4000):
            self.assertIs(is_colour(text), False)

    def test_every_sign_at_every_place(self):
        for many in range(1, 9):
            for at in range(many):
                for sign in SIGNS + ["\n", "\t", "\r", "\0", "\x7f"]:
                    text = "m" * at + sign + "m" * (many - at - 1)
                    with self.subTest(text=text):
                        self.assertIs(is_colour(text), sign in SMALL)

    def test_a_line_feed_or_a_blank_at_the_rim(self):
        for text in ("red\n", "\nred", "red ", " red", "\n", " ", "abcdefgh\n", "re\nd"):
            self.assertIs(is_colour(text), False)

    def test_small_letters_of_other_kinds(self):
        for text in ("\xe4", "r\xf6t", "\xdf", "\u0431", "\u03b1", "\xaa", "\uff41"):
            self.assertIs(is_colour(text), False)

    def test_what_is_no_text(self):
        things = (
            None, True, False, 0, 1, 1.5, b"red", bytearray(b"red"), ["r", "e", "d"], ["red"], ("r", "e"), ("red",),
            {}, {"r": "e"}, {"red"}, str, len, object(), EAST,
        )
        for thing in things:
            with self.subTest(thing=thing):
                self.assertIs(is_colour(thing), False)


class PictureTest(unittest.TestCase):
    def test_without_tuples(self):
        self.assertEqual(picture([]), [])

    def test_one_tuple(self):
        self.assertEqual(picture([(EAST, "red")]), [(EAST, "red")])

    def test_in_any_order_it_is_sorted(self):
        pairs = [(AFAR, "blue"), (NORTH, "red"), (EAST, "black"), (SLANT, "red")]
        for order in itertools.permutations(pairs):
            self.assertEqual(picture(list(order)), pairs)

    def test_it_is_sorted_by_lines_as_numbers(self):
        pairs = [(((x, y), (x + 1, y)), "red") for x in (-10, -9, 2, 10) for y in (-10, -9, 2, 10)]
        self.assertEqual(picture(pairs[::-1]), pairs)
        # lines with one first hole, by the second
        ends = [(0, 1), (0, 9), (1, -9), (1, 0), (9, -1), (9, 9)]
        pairs = [(((0, 0), end), "red") for end in ends]
        self.assertEqual(picture(pairs[::-1]), pairs)

    def test_alike_tuples_come_once(self):
        pairs = [(EAST, "red"), (NORTH, "blue"), (EAST, "red"), (EAST, "red"), (NORTH, "blue")]
        for order in itertools.permutations(pairs):
            self.assertEqual(picture(list(order)), [(NORTH, "blue"), (EAST, "red")])

    def test_what_is_told_is_a_list_of_tuples(self):
        told = picture([(EAST, "red"), (NORTH, "red")])
        self.assertIsInstance(told, list)
        for pair in told:
            self.assertIsInstance(pair, tuple)

    def test_a_picture_makes_itself(self):
        told = picture([(SLANT, "red"), (AFAR, "red"), (EAST, "blue")])
        self.assertEqual(picture(told), told)

    def test_a_hundred_and_twenty_lines(self):
        for many in (119, 120):
            self.assertEqual(picture(row_of(many)), row_of(many))
            self.assertEqual(picture(row_of(many)[::-1]), row_of(many))

    def test_a_hundred_and_twenty_one_lines(self):
        for many in (121, 122, 300):
            with self.subTest(many=many), self.assertRaises(TooMany):
                picture(row_of(many))

    def test_unlike_colours_count_together(self):
        pairs = row_of(60, "red") + [(((at, 5), (at + 1, 5)), "blue") for at in range(60)]
        self.assertEqual(picture(pairs), sorted(pairs))
        with self.assertRaises(TooMany):
            picture(pairs + [(NORTH, "black")])

    def test_alike_tuples_count_once(self):
        self.assertEqual(picture(row_of(120) + row_of(120)), row_of(120))
        self.assertEqual(picture(row_of(120) + row_of(1)), row_of(120))
        self.assertEqual(picture([(EAST, "red")] * 500), [(EAST, "red")])
        with self.assertRaises(TooMany):
            picture(row_of(121) + row_of(121))
        with self.assertRaises(TooMany):
            picture(row_of(60) + row_of(121))

    def test_a_line_with_two_colours(self):
        for pairs in (
            [(EAST, "red"), (EAST, "blue")],
            [(EAST, "blue"), (EAST, "red")],
            [(EAST, "red"), (NORTH, "red"), (EAST, "redd")],
            [(EAST, "red"), (EAST, "red"), (NORTH, "blue"), (SLANT, "red"), (EAST, "blue")],
        ):
            with self.subTest(pairs=pairs), self.assertRaises(TwoColours):
                picture(pairs)

    def test_two_colours_go_ahead_of_too_many(self):
        for at in (0, 60, 120, 129):
            line = row_of(130)[at][0]
            for pairs in (row_of(130) + [(line, "blue")], [(line, "blue")] + row_of(130)):
                with self.subTest(at=at), self.assertRaises(TwoColours):
                    picture(pairs)

    def test_two_colours_where_the_lines_are_just_enough(self):
        for many in (119, 120, 121):
            with self.subTest(many=many), self.assertRaises(TwoColours):
                picture(row_of(many) + row_of(1, "blue"))


class ToldOfPicturesTest(unittest.TestCase):
    def test_colours_sorted_as_texts_each_once(self):
        names = ["b", "a", "aa", "ab", "abcdefgh", "z", "aaa", "ba", "red", "a", "b", "red"]
        one = picture([(((at, 0), (at + 1, 0)), name) for at, name in enumerate(names)])
        self.assertEqual(colours(one), ["a", "aa", "aaa", "ab", "abcdefgh", "b", "ba", "red", "z"])

    def test_colours_of_few_lines(self):
        self.assertEqual(colours([]), [])
        self.assertEqual(colours([(EAST, "red")]), ["red"])
        self.assertEqual(colours(row_of(120)), ["red"])

    def test_lines_of_a_colour(self):
        one = picture([(SLANT, "red"), (EAST, "blue"), (AFAR, "red"), (NORTH, "re")])
        self.assertEqual(lines_of(one, "red"), [AFAR, SLANT])
        self.assertEqual(lines_of(one, "blue"), [EAST])
        self.assertEqual(lines_of(one, "re"), [NORTH])

    def test_lines_of_a_colour_that_no_line_has(self):
        one = picture([(EAST, "red")])
        for colour in ("black", "r", "re", "redd", "d"):
            self.assertEqual(lines_of(one, colour), [])
        self.assertEqual(lines_of([], "red"), [])

    def test_every_line_is_of_one_colour(self):
        one = picture([(((at, 0), (at, 9)), SMALL[at * 7 % 5]) for at in range(-60, 60)])
        again = [(line, colour) for colour in colours(one) for line in lines_of(one, colour)]
        self.assertEqual(sorted(again), one)
        for colour in colours(one):
            self.assertEqual(lines_of(one, colour), sorted(lines_of(one, colour)))

    def test_holes_sorted_each_once(self):
        lines = [EAST, AFAR, NORTH, EAST, SLANT]
        holes = [(-FAR, FAR), (-FAR + 9, FAR - 9), (0, 0), (0, 1), (1, 0)]
        for order in itertools.permutations(lines):
            self.assertEqual(holes_of(list(order)), holes)

    def test_holes_are_sorted_by_x_and_then_by_y_as_numbers(self):
        lines = [((9, 10), (10, 9)), ((-9, 0), (-2, -1)), ((-10, 2), (-9, -7)), ((9, -2), (9, 2))]
        holes = [(-10, 2), (-9, -7), (-9, 0), (-2, -1), (9, -2), (9, 2), (9, 10), (10, 9)]
        self.assertEqual(holes_of(lines), holes)

    def test_holes_of_few_lines(self):
        self.assertEqual(holes_of([]), [])
        self.assertEqual(holes_of([SLANT]), [(0, 1), (1, 0)])
        self.assertEqual(holes_of([SLANT, SLANT]), [(0, 1), (1, 0)])


class AskersOwnTest(AskersOwn, unittest.TestCase):
    """Promise 2: each of the askings, on pictures and lists of lines."""

    pairs = [(SLANT, "red"), (EAST, "blue"), (EAST, "blue"), (AFAR, "red")]
    one = [(AFAR, "red"), (EAST, "blue"), (SLANT, "red")]
    lines = [SLANT, EAST, EAST, AFAR]

    def askings(self):
        return (
            (picture, (list(self.pairs),)),
            (picture, (list(self.one),)),
            (picture, ([],)),
            (colours, (list(self.one),)),
            (colours, ([],)),
            (lines_of, (list(self.one), "red")),
            (lines_of, (list(self.one), "black")),
            (holes_of, (list(self.lines),)),
            (holes_of, ([],)),
        )

    def refusals(self):
        return (
            (TooMany, picture, (row_of(130)[::-1],)),
            (TwoColours, picture, ([(EAST, "red"), (NORTH, "red"), (EAST, "blue")],)),
            (TwoColours, picture, (row_of(130)[::-1] + row_of(1, "blue"),)),
        )
