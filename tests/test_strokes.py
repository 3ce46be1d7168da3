"""Promises 11 and 12, drawings read and written, and promise 2 as far as it speaks of them."""

import unittest

from bothfaces.errors import NoDrawing
from bothfaces.strokes import read, shown
from tests.askers import AskersOwn
from tests.drawings import some_drawings
from tests.things import Strange

FAR = 10 ** 9
WAYS = {
    "n": (0, 1), "ne": (1, 1), "e": (1, 0), "se": (1, -1), "s": (0, -1), "sw": (-1, -1), "w": (-1, 0), "nw": (-1, 1),
}
WORDS = tuple(WAYS) + ("line", "by", "ink", "times", "turn")
# Texts and strokes that are one another, either way about.
BOTH_WAYS = (
    ("", []),
    ("n", [("line", 0, 1)]),
    ("n n", [("line", 0, 1), ("line", 0, 1)]),
    ("line 2 0", [("line", 2, 0)]),
    ("line -9 9 se line 0 -2", [("line", -9, 9), ("line", 1, -1), ("line", 0, -2)]),
    ("by 3 -4", [("by", 3, -4)]),
    ("by 0 0", [("by", 0, 0)]),
    ("by 1 0", [("by", 1, 0)]),
    ("by -1000000000 1000000000", [("by", -FAR, FAR)]),
    ("ink red e", [("ink", "red"), ("line", 1, 0)]),
    ("( n )", [("back", [("line", 0, 1)])]),
    ("( ( n ) )", [("back", [("back", [("line", 0, 1)])])]),
    ("( n ) ( e )", [("back", [("line", 0, 1)]), ("back", [("line", 1, 0)])]),
    ("w ( n ( e ) s ) w", [
        ("line", -1, 0),
        ("back", [("line", 0, 1), ("back", [("line", 1, 0)]), ("line", 0, -1)]),
        ("line", -1, 0),
    ]),
    ("1 times ( n )", [("times", 1, [("line", 0, 1)])]),
    ("60 times ( n by 2 2 )", [("times", 60, [("line", 0, 1), ("by", 2, 2)])]),
    ("turn 0 ( n )", [("turn", 0, [("line", 0, 1)])]),
    ("turn 7 ( ink a sw )", [("turn", 7, [("ink", "a"), ("line", -1, -1)])]),
    ("4 times ( turn 3 ( ( e ) ) ) n", [
        ("times", 4, [("turn", 3, [("back", [("line", 1, 0)])])]), ("line", 0, 1),
    ]),
    ("turn 3 ( 4 times ( e ) )", [("turn", 3, [("times", 4, [("line", 1, 0)])])]),
)


def within(many, begin="("):
    """A stroke within so many brackets."""
    return " ".join([begin] * many + ["n"] + [")"] * many)


class Case(unittest.TestCase):
    def assert_refused(self, *things):
        for thing in things:
            with self.subTest(thing=thing if isinstance(thing, str) else thing.__class__):
                with self.assertRaises(NoDrawing):
                    read(thing)

    def assert_read(self, text, strokes):
        with self.subTest(text=text):
            told = read(text)
            self.assertEqual(told, strokes)
            self.assert_strokes(told)

    def assert_strokes(self, told):
        self.assertIs(told.__class__, list)
        for stroke in told:
            self.assertIs(stroke.__class__, tuple)
            if stroke[0] in ("back", "times", "turn"):
                self.assert_strokes(stroke[-1])


class ReadTest(Case):
    def test_texts_and_strokes(self):
        for text, strokes in BOTH_WAYS:
            self.assert_read(text, strokes)

    def test_the_eight_ways(self):
        for word, (x, y) in WAYS.items():
            self.assert_read(word, [("line", x, y)])
            self.assert_read(f"{word} {word} by 5 5", [("line", x, y), ("line", x, y), ("by", 5, 5)])

    def test_lines_to_every_hole_and_beyond(self):
        for x in range(-12, 13):
            for y in range(-12, 13):
                if (x, y) != (0, 0) and -9 <= x <= 9 and -9 <= y <= 9:
                    self.assert_read(f"line {x} {y}", [("line", x, y)])
                else:
                    self.assert_refused(f"line {x} {y}")

    def test_a_line_to_a_next_hole_is_read_as_its_way(self):
        for word, (x, y) in WAYS.items():
            self.assertEqual(read(f"line {x} {y}"), read(word))

    def test_by_at_its_bounds(self):
        for much in (0, 1, -1, 9, 10, -10, 999999999, -999999999, FAR, -FAR):
            for x, y in ((much, 0), (0, much), (much, much), (much, -much)):
                self.assert_read(f"by {x} {y}", [("by", x, y)])
        for much in (FAR + 1, -FAR - 1, 9999999999, -9999999999, 10 ** 10, -10 ** 10, 10 ** 60 - 1, 10 ** 1900):
            self.assert_refused(f"by {much} 0", f"by 0 {much}", f"by {much} {much}")

    def test_times_at_its_bounds(self):
        for many in range(1, 61):
            self.assert_read(f"{many} times ( n )", [("times", many, [("line", 0, 1)])])
        for many in (0, 61, 62, 100, 600, -1, -60, FAR, 9999999999):
            self.assert_refused(f"{many} times ( n )")

    def test_turn_at_its_bounds(self):
        for way in range(8):
            self.assert_read(f"turn {way} ( n )", [("turn", way, [("line", 0, 1)])])
        for way in (-1, 8, 9, 10, 77, -7, FAR, 9999999999):
            self.assert_refused(f"turn {way} ( n )")

    def test_how_numbers_are_not_written(self):
        for wrong in (
            "00", "01", "007", "-0", "-00", "-01", "+1", "+0", "", "-", "--1", "1-", "- 1", "1.", "1.0", "1e0", "1_0",
            "0x1", "0b1", "0o1", "one", "(", ")", "n", "#", "1,", "00000000001", "-00000000001", "0000000001", "~1",
            "1\n", "\n1", "1\t", "\t1", "1\r", "\u0661", "\u00b9", "\uff11", "\u2212" + "1", "1\u00a0",
        ):
            self.assert_refused(
                f"line {wrong} 1", f"line 1 {wrong}", f"by {wrong} 1", f"by 1 {wrong}", f"{wrong} times ( n )",
                f"turn {wrong} ( n )", f"n {wrong} times ( n )", f"line {wrong} {wrong}", f"by {wrong} {wrong}",
            )

    def test_eleven_figures(self):
        for wrong in ("10000000000", "12345678901", "-10000000000", "-12345678901", "00000000005", "9" * 1900):
            self.assert_refused(
                f"line {wrong} 1", f"line 1 {wrong}", f"by {wrong} 1", f"by 1 {wrong}", f"{wrong} times ( n )",
                f"turn {wrong} ( n )",
            )

    def test_inks(self):
        for colour in ("red", "a", "z", "abcdefgh", "black") + WORDS:
            self.assert_read(f"ink {colour}", [("ink", colour)])
            self.assert_read(f"ink {colour} n", [("ink", colour), ("line", 0, 1)])
        for wrong in (
            "", "Red", "RED", "abcdefghi", "1", "a1", "(", ")", "-", "re-d", "red,", "r_d", "\n", "red\n", "\tred",
            "r\xf6t", "\u03b1",
        ):
            self.assert_refused(f"ink {wrong}", f"ink {wrong} n")

    def test_an_ink_that_is_called_like_a_word(self):
        self.assert_read("ink times ( n )", [("ink", "times"), ("back", [("line", 0, 1)])])
        self.assert_read("ink ink ink ink", [("ink", "ink"), ("ink", "ink")])
        self.assert_read("ink line line 2 2", [("ink", "line"), ("line", 2, 2)])
        self.assert_refused("ink turn 1 ( n )", "ink by 1 2", "ink line 1 2")

    def test_words_unknown(self):
        for wrong in (
            "x", "north", "nn", "en", "es", "wn", "nne", "1", "0", "-1", "times", "back", "red", "black", "to", "#n",
            "n,", "n;", ".", "[", "{", "None", "\\", "'n'", "~", "ne-", "lines", "inks", "turns", "(n)", "(n", "n)",
            "()", "((", "))",
        ):
            self.assert_refused(wrong, f"n {wrong}", f"{wrong} n", f"( {wrong} )", f"n {wrong} n")
        self.assert_refused("[ n ]", "{ n }", "2 time ( n )", "2 x ( n )", "turned 1 ( n )")

    def test_words_in_great_letters(self):
        for word in WAYS:
            self.assert_refused(word.upper(), f"n {word.upper()}")
        self.assert_refused(
            "Ne", "nE", "LINE 1 2", "Line 1 2", "BY 1 2", "By 1 2", "INK red", "Ink red", "2 TIMES ( n )",
            "2 Times ( n )", "TURN 1 ( n )", "Turn 1 ( n )",
        )

    def test_words_too_few(self):
        self.assert_refused(
            "line", "line 1", "line n", "line 1 n", "line 1 ( n )", "line ( n )", "by", "by 1", "by n e", "by 1 n",
            "by 1 ( n )", "ink", "ink ( n )", "times", "times ( n )", "2", "2 times", "2 ( n )", "2 times n", "2 n",
            "turn", "turn 1", "turn n", "turn ( n )", "turn 1 n", "n line", "n by 1", "n ink", "n 2 times", "n turn",
            "( line )", "( line 1 )", "( by )", "( by 1 )", "( ink )", "( turn )", "( turn 1 )", "( 2 )",
            "( 2 times )", "2 times ( n", "turn 1 ( n", "2 times (", "turn 1 (",
        )

    def test_words_too_many(self):
        self.assert_refused(
            "line 1 2 3", "by 1 2 3", "ink red blue", "n 1", "2 2 times ( n )", "2 times times ( n )",
            "turn 1 1 ( n )", "turn turn 1 ( n )", "turn 1 turn 1 ( n )", "2 times 2 times ( n )",
            "turn 2 times ( n )", "2 times turn 1 ( n )", "turn 1 2 times ( n )", "2 times ( n ) 2", "( n ) times",
            "2 times ink ( n )", "turn ink ( n )",
        )

    def test_brackets_that_hold_no_stroke(self):
        self.assert_refused(
            "( )", "2 times ( )", "turn 1 ( )", "n ( )", "( ) n", "( n ( ) )", "( ( ) n )", "( ( ) )",
            "2 times ( ( ) )", "turn 1 ( n 2 times ( ) )",
        )

    def test_brackets_not_closed_or_not_opened(self):
        self.assert_refused(
            "(", ")", ") (", "( n", "n )", "n ) (", "( n ) )", "( ( n )", "( n ) ) n", "n ) n", "2 times n )",
            "turn 1 n )", "( ) )", "( (", ") )", "( 2 times ( n )", "turn 1 ( n ) )", "( n ) ( n", "n ) ( n",
        )

    def test_eight_brackets_and_nine(self):
        for begin in ("(", "2 times (", "turn 1 ("):
            for many in range(1, 9):
                self.assertEqual(shown(read(within(many, begin))), within(many, begin))
            for many in (9, 10, 50):
                self.assert_refused(within(many, begin))

    def test_brackets_of_all_kinds_count_together(self):
        eight = "( 2 times ( turn 1 ( ( 2 times ( turn 1 ( ( 2 times ( n ) ) ) ) ) ) ) )"
        self.assertEqual(shown(read(eight)), eight)
        for nine in (f"( {eight} )", f"2 times ( {eight} )", f"turn 1 ( {eight} )", f"turn 1 ( n {eight} n )"):
            self.assert_refused(nine)
        for inner in ("( n )", "2 times ( n )", "turn 1 ( n )"):
            self.assert_refused(eight.replace("n )", inner + " )", 1))

    def test_only_brackets_at_one_place_count(self):
        text = " ".join([within(8)] * 9 + [within(1)] * 50)
        self.assertEqual(shown(read(text)), text)
        inner = " ".join([within(7)] * 9)
        self.assertEqual(shown(read(f"( {inner} )")), f"( {inner} )")
        self.assert_refused(f"( ( {inner} ) )", within(8) + " " + within(9))

    def test_blanks_line_feeds_and_tabs(self):
        self.assert_refused(
            " ", "  ", " n", "n ", " n ", "n  e", "n   e", "line  1 2", "line 1  2", "line 1 2 ", "by  1 2", "ink  red",
            "2  times ( n )", "2 times  ( n )", "turn  1 ( n )", "(  n )", "( n  )", "( n ) ", " ( n )", "(  )",
            "\n", "n\n", "\nn", "n\ne", "n \ne", "n\n e", "n \n e", "\t", "n\t", "\tn", "n\te", "n \t e",
            "n\r", "n\r\n", "n\x0be", "n\x0ce", "n\x00", "\x00", "n\xa0e",
            "n\u2003e", "line 1\t2", "line 1\n2", "( n\n)",
        )

    def test_two_thousand_signs(self):
        for text in ("ne" + " n" * 999, "( ne" + " n" * 997 + " )", "9 times ( ne" + " n" * 993 + " )"):
            self.assertEqual(len(text), 2000)
            self.assertEqual(shown(read(text)), text)
        self.assertEqual(read("ne" + " n" * 999), [("line", 1, 1)] + [("line", 0, 1)] * 999)
        self.assertEqual(read("n" + " n" * 999), [("line", 0, 1)] * 1000)

    def test_two_thousand_and_one_signs(self):
        for text in ("n" + " n" * 1000, "ne ne" + " n" * 998, "( ne ne" + " n" * 996 + " )"):
            self.assertEqual(len(text), 2001)
            self.assert_refused(text)
        self.assert_refused("ne" + " n" * 1000, "n" + " n" * 1999, "n" * 2001, " " * 2001, "n" + " n" * 5000)

    def test_what_is_no_text(self):
        self.assert_refused(
            None, True, False, 0, 1, -1, 2.5, 1j, b"", b"n", bytearray(b"n"), [], ["n"], (), ("n",), ("n", "e"), {},
            {"n": "e"}, {"n"}, frozenset("n"), str, len, object(), iter("n"), range(3), [("line", 0, 1)],
            ("line", 0, 1), NoDrawing("n"), Strange(), [Strange()],
        )


class ShownTest(Case):
    def test_texts_and_strokes(self):
        for text, strokes in BOTH_WAYS:
            with self.subTest(text=text):
                self.assertEqual(shown(strokes), text)

    def test_lines_to_every_hole(self):
        words = {way: word for word, way in WAYS.items()}
        for x in range(-9, 10):
            for y in range(-9, 10):
                if (x, y) != (0, 0):
                    self.assertEqual(shown([("line", x, y)]), words.get((x, y), f"line {x} {y}"))

    def test_by_to_a_next_hole_stays_by(self):
        for x, y in WAYS.values():
            self.assertEqual(shown([("by", x, y)]), f"by {x} {y}")

    def test_a_line_to_a_next_hole_is_written_by_its_way(self):
        for word, (x, y) in WAYS.items():
            self.assertEqual(shown(read(f"line {x} {y}")), word)
            self.assertEqual(shown(read(f"( line {x} {y} line 2 2 )")), f"( {word} line 2 2 )")

    def test_what_is_read_is_written_and_read_again_alike(self):
        for text in some_drawings(300):
            with self.subTest(text=text):
                self.assertEqual(read(shown(read(text))), read(text))

    def test_the_same_text_where_no_line_leads_to_a_next_hole(self):
        for text in some_drawings(300):
            with self.subTest(text=text):
                self.assertEqual(shown(read(text)), text)

    def test_somewhat_beyond_the_bounds_it_is_written_all_the_same(self):
        self.assertEqual(shown([("line", 10, 0), ("by", FAR + 1, 0)]), f"line 10 0 by {FAR + 1} 0")
        self.assertEqual(shown([("times", 61, [("line", 0, 1)])]), "61 times ( n )")
        self.assertEqual(shown([("line", 0, 1)] * 1500), "n" + " n" * 1499)
        deep = [("line", 0, 1)]
        for depth in range(20):
            deep = [("back", deep)]
        self.assertEqual(shown(deep), within(20))


class AskersOwnTest(AskersOwn, unittest.TestCase):
    def askings(self):
        texts = [text for text, strokes in BOTH_WAYS] + some_drawings(20)
        return [(read, (text,)) for text in texts] + [(shown, (read(text),)) for text in texts]

    def refusals(self):
        return [(NoDrawing, read, (thing,)) for thing in ("( n ( e )", "n ) e", ["n"], [["n"]], ("n", ["e"]))]
