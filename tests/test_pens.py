"""Promise 13, what the pen draws, and promise 2 as far as it speaks of it."""

import collections
import unittest

from bothfaces.errors import ClothError, NoHole, TooMany, TwoColours
from bothfaces.lines import is_line
from bothfaces.pens import drawn
from bothfaces.pictures import picture
from bothfaces.strokes import read
from tests.askers import AskersOwn
from tests.drawings import some_drawings

FAR = 10 ** 9
TO_THE_RIM = "by 1000000000 1000000000"
WAYS = {
    "n": (0, 1), "ne": (1, 1), "e": (1, 0), "se": (1, -1), "s": (0, -1), "sw": (-1, -1), "w": (-1, 0), "nw": (-1, 1),
}
# Where a line 2 to the east and 1 to the north leads by each of the eight turnings.
TWO_ONE = ((2, 1), (-1, 2), (-2, -1), (1, -2), (-2, 1), (-1, -2), (2, -1), (1, 2))


def seen(text):
    return drawn(read(text))


def pair(one, other, colour="black"):
    return (tuple(sorted((one, other))), colour)


class HandPen:
    """The same pen by complex numbers: it notes what it does, and looks at no bounds."""

    def __init__(self):
        self.place, self.colour = 0, "black"
        # the turnings round the pen, the innermost last
        self.round = []

    def step(self, x, y):
        for way in reversed(self.round):
            x, y = (-x, y) if way > 3 else (x, y)
            step = complex(x, y) * 1j ** (way % 4)
            x, y = round(step.real), round(step.imag)
        return complex(x, y)

    def notes(self, strokes):
        for word, *rest in strokes:
            yield ("begin",)
            if word in ("line", "by"):
                ahead = self.place
                self.place += self.step(*rest)
                yield (word, ahead, self.place, self.colour)
            elif word == "ink":
                self.colour = rest[0]
            elif word == "back":
                ahead = self.place, self.colour
                yield from self.notes(rest[0])
                self.place, self.colour = ahead
            elif word == "times":
                for each in range(rest[0]):
                    yield ("begin",)
                    yield from self.notes(rest[1])
            else:
                self.round.append(rest[0])
                yield from self.notes(rest[1])
                self.round.pop()


def hole_of(place):
    return (round(place.real), round(place.imag))


def by_hand(strokes):
    """The picture, or the class of the refusal."""
    begun, pairs = 0, []
    for word, *rest in HandPen().notes(strokes):
        begun += word == "begin"
        if begun > 2000 or word == "line" and len(pairs) == 400:
            return TooMany
        if word != "begin":
            if max(map(abs, hole_of(rest[1]))) > FAR:
                return NoHole
            if word == "line":
                pairs.append(pair(hole_of(rest[0]), hole_of(rest[1]), rest[2]))
    try:
        return picture(pairs)
    except ClothError as refusal:
        return refusal.__class__


class Case(unittest.TestCase):
    def assert_drawn(self, text, *pairs):
        with self.subTest(text=text):
            self.assertEqual(seen(text), sorted(pairs))

    def assert_refused(self, refusal, *texts):
        for text in texts:
            with self.subTest(text=text), self.assertRaises(refusal):
                seen(text)


class StrokesTest(Case):
    def test_none(self):
        self.assertEqual(drawn([]), [])

    def test_each_way_from_the_middle_and_from_elsewhere(self):
        for word, (x, y) in WAYS.items():
            self.assert_drawn(word, pair((0, 0), (x, y)))
            self.assert_drawn(f"by 7 -3 {word}", pair((7, -3), (7 + x, -3 + y)))
            self.assert_drawn(f"{word} {word}", pair((0, 0), (x, y)), pair((x, y), (2 * x, 2 * y)))

    def test_lines_of_every_length(self):
        for x in range(-9, 10):
            for y in range(-9, 10):
                if (x, y) != (0, 0):
                    self.assert_drawn(
                        f"line {x} {y} line {-y} {x}", pair((0, 0), (x, y)), pair((x, y), (x - y, x + y)),
                    )

    def test_by_draws_no_line(self):
        self.assert_drawn("by 5 5")
        self.assert_drawn("by 0 0 e", pair((0, 0), (1, 0)))
        self.assert_drawn("by 5 -2 by -3 1 e", pair((2, -1), (3, -1)))
        self.assert_drawn("e by 1 0 e", pair((0, 0), (1, 0)), pair((2, 0), (3, 0)))

    def test_inks_from_now_on(self):
        self.assert_drawn(
            "e ink red e e ink blue ink green e", pair((0, 0), (1, 0)), pair((1, 0), (2, 0), "red"),
            pair((2, 0), (3, 0), "red"), pair((3, 0), (4, 0), "green"),
        )
        self.assert_drawn("ink red")
        self.assert_drawn("ink black e", pair((0, 0), (1, 0)))

    def test_it_is_a_picture(self):
        told = seen("ink red 4 times ( n e line 3 -2 ) ink blue s w")
        self.assertIsInstance(told, list)
        self.assertEqual(picture(told), told)
        for ends, colour in told:
            self.assertIs(is_line(ends), True)

    def test_alike_lines_of_one_colour(self):
        self.assert_drawn("e w e w", pair((0, 0), (1, 0)))
        self.assert_drawn("ink red e by -1 0 e", pair((0, 0), (1, 0), "red"))
        self.assert_drawn("60 times ( ( n e ) )", pair((0, 0), (0, 1)), pair((0, 1), (1, 1)))
        self.assert_drawn("( ink red e ) ink red e", pair((0, 0), (1, 0), "red"))


class BracketsTest(Case):
    def test_back_gives_back_place_and_colour(self):
        self.assert_drawn("( e e ) n", pair((0, 0), (1, 0)), pair((1, 0), (2, 0)), pair((0, 0), (0, 1)))
        self.assert_drawn("( ink red e ) n", pair((0, 0), (1, 0), "red"), pair((0, 0), (0, 1)))
        self.assert_drawn("( by 5 5 ink red ) n", pair((0, 0), (0, 1)))
        self.assert_drawn(
            "ink red e ( ink blue n ( ink green n ) e ) e", pair((0, 0), (1, 0), "red"),
            pair((1, 0), (1, 1), "blue"), pair((1, 1), (1, 2), "green"), pair((1, 1), (2, 1), "blue"),
            pair((1, 0), (2, 0), "red"),
        )

    def test_back_gives_back_the_turning(self):
        self.assert_drawn(
            "turn 1 ( ( turn 1 ( e ) e ) e )", pair((0, 0), (-1, 0)), pair((-1, 0), (-1, 1)), pair((0, 0), (0, 1)),
        )
        self.assert_drawn("( turn 2 ( e ) ) e", pair((0, 0), (-1, 0)), pair((0, 0), (1, 0)))

    def test_times_leaves_the_pen_where_it_is(self):
        self.assert_drawn(
            "3 times ( e by 1 0 ) n", pair((0, 0), (1, 0)), pair((2, 0), (3, 0)), pair((4, 0), (5, 0)),
            pair((6, 0), (6, 1)),
        )
        self.assert_drawn("1 times ( ink red e ) e", pair((0, 0), (1, 0), "red"), pair((1, 0), (2, 0), "red"))
        self.assert_drawn(
            "2 times ( e ink red ) e", pair((0, 0), (1, 0)), pair((1, 0), (2, 0), "red"),
            pair((2, 0), (3, 0), "red"),
        )

    def test_times_from_one_to_sixty(self):
        for many in range(1, 61):
            self.assert_drawn(f"{many} times ( e )", *(pair((at, 0), (at + 1, 0)) for at in range(many)))

    def test_times_within_times(self):
        self.assert_drawn(
            "3 times ( 4 times ( e ) n )",
            *(pair((at + row * 4, row), (at + row * 4 + 1, row)) for row in range(3) for at in range(4)),
            *(pair((row * 4 + 4, row), (row * 4 + 4, row + 1)) for row in range(3)),
        )
        self.assert_drawn("2 times ( 3 times ( 4 times ( e ) ) )", *(pair((at, 0), (at + 1, 0)) for at in range(24)))

    def test_turn_by_each_of_the_eight(self):
        for way, (x, y) in enumerate(TWO_ONE):
            self.assert_drawn(f"turn {way} ( line 2 1 )", pair((0, 0), (x, y)))
            self.assert_drawn(
                f"by 3 4 turn {way} ( by 2 1 line 2 1 )", pair((3 + x, 4 + y), (3 + 2 * x, 4 + 2 * y)),
            )
            for word, step in WAYS.items():
                with self.subTest(way=way, word=word):
                    told = seen(f"turn {way} ( {word} )")
                    self.assertEqual(told, by_hand([("turn", way, [("line", *step)])]))

    def test_turn_gives_back_the_turning_alone(self):
        self.assert_drawn(
            "turn 1 ( ink red line 2 1 ) line 2 1", pair((0, 0), (-1, 2), "red"), pair((-1, 2), (1, 3), "red"),
        )
        self.assert_drawn("turn 3 ( by 2 1 ) line 2 1", pair((1, -2), (3, -1)))
        self.assert_drawn(
            "turn 1 ( turn 4 ( line 2 1 ) line 2 1 )", pair((0, 0), TWO_ONE[5]), pair((-1, -2), (-2, 0)),
        )

    def test_turns_within_turns_the_inner_ones_first(self):
        # turned one quarter within a mirrored turn, and mirrored within a turn by one quarter
        self.assert_drawn("turn 4 ( turn 1 ( line 2 1 ) )", pair((0, 0), (1, 2)))
        self.assert_drawn("turn 1 ( turn 4 ( line 2 1 ) )", pair((0, 0), (-1, -2)))
        for outer in range(8):
            for middle in range(8):
                for inner in range(8):
                    strokes = [("turn", outer, [("turn", middle, [("turn", inner, [("line", 2, 1), ("by", 3, 5)])])])]
                    strokes.append(("line", 9, 4))
                    with self.subTest(outer=outer, middle=middle, inner=inner):
                        self.assertEqual(drawn(strokes), by_hand(strokes))

    def test_turned_times(self):
        self.assert_drawn(
            "4 times ( e turn 1 ( e ) )", *(pair((at, at), (at + 1, at)) for at in range(4)),
            *(pair((at + 1, at), (at + 1, at + 1)) for at in range(4)),
        )
        self.assert_drawn("turn 2 ( 3 times ( e ) )", *(pair((-at, 0), (-at - 1, 0)) for at in range(3)))

    def test_deeper_than_a_text_can_be(self):
        deep = [("line", 2, 1)]
        for depth in range(15):
            deep = [("back", [("turn", 1, deep)])]
        self.assertEqual(drawn(deep), [pair((0, 0), TWO_ONE[3])])


class BoundsTest(Case):
    def assert_strokes_counted(self, text, many):
        """The drawing begins just so many strokes: with those that fill up 2000 it is let by, with one more not."""
        strokes = read(text)
        with self.subTest(text=text):
            drawn(strokes + [("ink", "red")] * (2000 - many))
            drawn([("by", 0, 0)] * (2000 - many) + strokes)
            with self.assertRaises(TooMany):
                drawn(strokes + [("ink", "red")] * (2001 - many))
            with self.assertRaises(TooMany):
                drawn([("by", 0, 0)] * (2001 - many) + strokes)

    def test_how_strokes_are_counted(self):
        for text, many in (
            ("", 0),
            ("n", 1),
            ("line 2 2", 1),
            ("by 2 2", 1),
            ("ink red", 1),
            ("n by 1 1 ink red e", 4),
            ("( n )", 2),
            ("( n e )", 3),
            ("( ( n ) )", 3),
            ("turn 3 ( n )", 2),
            ("turn 0 ( n turn 0 ( n e ) )", 5),
            ("1 times ( n )", 3),
            ("2 times ( n )", 5),
            ("60 times ( n )", 121),
            ("3 times ( by 1 1 ink red )", 10),
            ("2 times ( 3 times ( n ) )", 1 + 2 * (1 + 1 + 3 * 2)),
            ("5 times ( turn 1 ( ( n ) ) )", 1 + 5 * 4),
            ("60 times ( ( 5 times ( ink red by 1 1 ink blue ) ) )", 1 + 60 * (1 + 1 + 1 + 5 * 4)),
        ):
            self.assert_strokes_counted(text, many)

    def test_two_thousand_strokes_and_one_more(self):
        # 33 * 60 + 1 are 1981
        most = "60 times ( by 1 0" + " ink red" * 31 + " )"
        self.assert_drawn(most + " by 0 0" * 19)
        self.assert_refused(TooMany, most + " by 0 0" * 20, most + " by 0 0" * 18 + " ( n )")

    def test_a_round_is_counted_as_it_begins(self):
        fill = [("ink", "red")]
        # the last stroke that is let by is a bracket, `times`, a round: the next one within is refused
        for last in (("back", fill), ("turn", 1, fill), ("times", 1, fill)):
            with self.assertRaises(TooMany):
                drawn(fill * 1999 + [last])
        drawn(fill * 1998 + [("back", fill)])
        drawn(fill * 1998 + [("turn", 1, fill)])
        with self.assertRaises(TooMany):
            drawn(fill * 1998 + [("times", 1, fill)])
        drawn(fill * 1997 + [("times", 1, fill)])
        # the second round is one more, and its stroke another one
        for ahead in (1996, 1997):
            with self.assertRaises(TooMany):
                drawn(fill * ahead + [("times", 2, fill)])
        drawn(fill * 1995 + [("times", 2, fill)])

    def test_many_rounds_end_soon(self):
        text = "60 times ( 60 times ( 60 times ( 60 times ( 60 times ( 60 times ( 60 times ( ink red ) ) ) ) ) ) )"
        self.assert_refused(TooMany, text)

    def test_four_hundred_lines_and_one_more(self):
        most = "20 times ( 10 times ( e w ) )"
        self.assert_drawn(most, pair((0, 0), (1, 0)))
        self.assert_drawn(most + " by 3 3 ink red", pair((0, 0), (1, 0)))
        self.assert_refused(TooMany, most + " e", most + " ( e )", most + " by 3 3 turn 2 ( line 2 2 )", "e " + most)

    def test_alike_lines_are_counted_anew(self):
        for many in (1, 399, 400):
            self.assertEqual(drawn([("back", [("line", 2, 1)])] * many), [pair((0, 0), (2, 1))])
        for many in (401, 402, 500):
            with self.assertRaises(TooMany):
                drawn([("back", [("line", 2, 1)])] * many)

    def test_only_lines_are_counted_as_lines(self):
        strokes = [("back", [("line", 2, 1), ("by", 1, 1), ("ink", "red")])] * 400
        self.assertEqual(drawn(strokes), [pair((0, 0), (2, 1))])

    def test_places_at_the_bounds_and_one_beyond(self):
        for x, y in ((1, 0), (-1, 0), (0, 1), (0, -1), (1, 1), (-1, 1), (1, -1), (-1, -1)):
            rim = f"by {x * FAR} {y * FAR}"
            word = [word for word, way in WAYS.items() if way == (x, y)][0]
            self.assert_drawn(rim)
            self.assert_refused(NoHole, f"{rim} {word}", f"{rim} by {x} {y}", f"{rim} ( {word} )")
            near = f"by {x * (FAR - 1)} {y * (FAR - 1)}"
            self.assert_drawn(f"{near} {word}", pair((x * (FAR - 1), y * (FAR - 1)), (x * FAR, y * FAR)))
            self.assert_drawn(f"{near} by {x} {y}")
            self.assert_refused(NoHole, f"{near} line {2 * x} {2 * y}", f"{near} by {2 * x} {2 * y}")
            self.assert_refused(NoHole, f"{near} 2 times ( {word} )", f"{near} 2 times ( by {x} {y} )")

    def test_one_of_both_beyond_is_enough(self):
        self.assert_refused(NoHole, "by 1000000000 0 ne", "by 0 1000000000 ne", "by 1000000000 0 line 1 -9")
        self.assert_refused(NoHole, "by 5 5 by 1000000000 0", "by 5 5 by 0 1000000000", "by -5 -5 by 0 -1000000000")

    def test_from_bound_to_bound(self):
        self.assert_drawn(
            f"{TO_THE_RIM} s 2 times ( by -1000000000 0 ) by 1 0 w", pair((FAR, FAR), (FAR, FAR - 1)),
            pair((-FAR, FAR - 1), (1 - FAR, FAR - 1)),
        )

    def test_the_place_is_looked_at_behind_the_turning(self):
        rim = "by 1000000000 0"
        self.assert_drawn(f"{rim} turn 2 ( e )", pair((FAR - 1, 0), (FAR, 0)))
        self.assert_drawn(f"{rim} turn 1 ( e )", pair((FAR, 0), (FAR, 1)))
        self.assert_refused(NoHole, f"{rim} turn 2 ( w )", f"{rim} turn 3 ( n )", f"{rim} turn 4 ( w )")
        self.assert_refused(NoHole, f"{rim} turn 3 ( by 0 1 )")

    def test_no_hole_where_the_pen_comes_back_at_once(self):
        self.assert_refused(NoHole, f"{TO_THE_RIM} by 1 0 by -1 0", f"{TO_THE_RIM} ( e )", f"{TO_THE_RIM} n s")

    def test_of_too_many_and_no_hole_the_first(self):
        beyond = [("by", FAR, FAR), ("by", 1, 0)]
        fill = [("ink", "red")]
        lines = [("line", 1, 0), ("line", -1, 0)] * 200
        for strokes, refusal in (
            (beyond + fill * 2000, NoHole),
            (beyond + lines + lines, NoHole),
            (fill * 1998 + beyond, NoHole),
            (fill * 1999 + beyond, TooMany),
            (fill * 2001 + beyond, TooMany),
            (lines + beyond, NoHole),
            (lines + [("line", 1, 0)] + beyond, TooMany),
            (beyond[:1] + [("back", [("line", -1, 0)])] * 399 + [("line", 1, 0)], NoHole),
            # the 401st line leads to no hole: of both TooMany is told
            (beyond[:1] + [("back", [("line", -1, 0)])] * 400 + [("line", 1, 0)], TooMany),
            # the 2001st stroke leads to no hole, by a line or without
            (beyond[:1] + fill * 1999 + [("line", 1, 0)], TooMany),
            (beyond[:1] + fill * 1998 + [("line", 1, 0)], NoHole),
            (beyond[:1] + fill * 1999 + [("by", 1, 0)], TooMany),
            # within brackets and rounds, which are counted ahead of their strokes
            (beyond[:1] + fill * 1997 + [("back", beyond[1:])], NoHole),
            (beyond[:1] + fill * 1998 + [("back", beyond[1:])], TooMany),
            (beyond[:1] + fill * 1997 + [("turn", 4, [("by", -1, 0)])], NoHole),
            (beyond[:1] + fill * 1998 + [("turn", 4, [("by", -1, 0)])], TooMany),
            (beyond[:1] + fill * 1996 + [("times", 1, beyond[1:])], NoHole),
            (beyond[:1] + fill * 1997 + [("times", 1, beyond[1:])], TooMany),
            ([("by", FAR - 60, 0), ("times", 60, [("by", 1, 0)] + fill * 31), ("by", 1, 0)], NoHole),
            ([("by", FAR - 60, 0), ("times", 60, [("by", 1, 0)] + fill * 32), ("by", 1, 0)], TooMany),
            ([("by", FAR - 59, 0), ("times", 60, [("by", 1, 0)] + fill * 31)], NoHole),
        ):
            with self.subTest(begin=strokes[:2], end=strokes[-2:], many=len(strokes)):
                with self.assertRaises(refusal):
                    drawn(strokes)
                self.assertIs(by_hand(strokes), refusal)

    def test_two_colours(self):
        self.assert_refused(
            TwoColours, "e ink red w", "( e ) ink red e", "ink red e ink blue w n", "2 times ( e w ink red )",
            "( ink red line 2 2 ) line 2 2", "e turn 2 ( ink red e )",
        )

    def test_a_hundred_and_twenty_lines_and_one_more(self):
        most = "2 times ( 60 times ( e ) )"
        self.assert_drawn(most, *(pair((at, 0), (at + 1, 0)) for at in range(120)))
        self.assert_drawn(most + " 60 times ( w )", *(pair((at, 0), (at + 1, 0)) for at in range(120)))
        self.assert_refused(TooMany, most + " e", most + " ink red e", most + " n", "5 times ( 60 times ( e ) )")

    def test_two_colours_go_ahead_of_more_than_a_hundred_and_twenty(self):
        many = "3 times ( 60 times ( e ) )"
        self.assert_refused(TwoColours, many + " ink red w", "( ink red e ) " + many, f"( {many} ) ink red e")

    def test_two_colours_come_behind_the_pens_own_refusals(self):
        two = "e ink red w"
        self.assert_refused(TwoColours, two, f"{two} by 5 5")
        self.assert_refused(TooMany, f"{two} 20 times ( 20 times ( e ) )", f"{two} 60 times ( 60 times ( by 0 0 ) )")
        self.assert_refused(NoHole, f"{two} {TO_THE_RIM} e", f"{two} ink blue {TO_THE_RIM} n", f"e w {TO_THE_RIM} e")

    def test_more_than_a_hundred_and_twenty_come_behind_no_hole(self):
        many = "3 times ( 60 times ( e ) )"
        self.assert_refused(NoHole, many + " " + TO_THE_RIM)
        self.assert_refused(TooMany, many)

    def test_somewhat_beyond_what_a_text_can_tell(self):
        self.assertEqual(drawn([("times", 61, [("line", 0, 1), ("line", 0, -1)])]), [pair((0, 0), (0, 1))])
        self.assertEqual(drawn([("by", -FAR, 0), ("by", 2 * FAR, 0), ("line", -1, 0)]), [pair((FAR - 1, 0), (FAR, 0))])
        self.assertEqual(drawn([("line", 10, 0)]), [pair((0, 0), (10, 0))])
        with self.assertRaises(NoHole):
            drawn([("by", FAR + 1, 0)])


class ManyDrawingsTest(Case):
    def test_against_a_pen_by_hand(self):
        kinds = collections.Counter()
        for text in some_drawings(3000):
            strokes = read(text)
            wanted = by_hand(strokes)
            kinds[wanted if isinstance(wanted, type) else list] += 1
            with self.subTest(text=text):
                if isinstance(wanted, type):
                    with self.assertRaises(wanted):
                        drawn(strokes)
                else:
                    self.assertEqual(drawn(strokes), wanted)
        for kind in (list, TooMany, NoHole, TwoColours):
            self.assertGreater(kinds[kind], 30)


class AskersOwnTest(AskersOwn, unittest.TestCase):
    texts = (
        "", "by 3 3", "n e ink red s", "( n ( e ) ) w", "3 times ( e ( n ) )", "turn 5 ( line 2 1 turn 1 ( n ) ) e",
        "e w",
    )

    def askings(self):
        return [(drawn, (read(text),)) for text in self.texts]

    def refusals(self):
        return (
            (TwoColours, drawn, (read("( n ) ink red ( n )"),)),
            (TooMany, drawn, (read("3 times ( 60 times ( e ) )"),)),
            (TooMany, drawn, (read("60 times ( 60 times ( by 0 0 ) )"),)),
            (NoHole, drawn, (read(TO_THE_RIM + " ink red turn 1 ( ( n e s ) )"),)),
        )
