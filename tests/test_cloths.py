"""Promises 18 and 19, threads worked on a cloth and pulled out, and promise 2 as far as it speaks of them."""

import random
import unittest

from bothfaces.cloths import Cloth
from bothfaces.errors import NoName, NoThread, Taken
from bothfaces.pictures import picture
from tests.askers import AskersOwn
from tests.sewing import EAST, FACES, FAR, NORTH, SLANT, WEST, ahead, ends, sewn, some_threads, to_and_fro
from tests.things import BEYOND, NO_HOLES, NO_NUMBERS, Strange

CORNER = ("front", ((1, 0), (0, 0), (0, 1)))
HOOK = ("back", ((1, 0), (0, 0), (0, 1), (1, 0)))
NO_THREADS = (
    None, True, False, 0, 1, -1, 1.5, "", "front", "front 0,0 1,0", b"front", [], {}, (), set(), Strange(), Cloth, len,
    EAST, ("front",), ("front", ()), ("front", ((0, 0),)), ("front", EAST, "red"), ("red", ("front", EAST)),
    ["front", EAST], ("front", list(EAST)), ("front", ([0, 0], [1, 0])), (EAST, "front"), [("front", EAST)],
    ("Front", EAST), ("both", EAST), ("", EAST), (None, EAST), (0, EAST), (True, EAST), (["front"], EAST),
    ("front", ahead(401)), ("back", ahead(401)), ("front", to_and_fro(401)),
    ("front", ((0, 0), (10, 0))), ("back", ((0, 0), (0, -10))), ("front", EAST + ((11, 0),)),
    ("front", ((0, 0), (0, 0))), ("front", EAST + EAST[1:]), ("back", EAST[:1] + EAST),
    ("front", ((FAR, 0), (FAR + 1, 0))), ("back", ((0, -FAR), (0, -FAR - 1))), ("front", ((0, 0), (True, 0))),
    ("front", ((0, 0), (1.0, 0))), ("front", ((0, 0), (1, 0, 0))), ("front", ((0, 0), None)), ("front", "ab"),
) + tuple(("front", ((0, 0), hole)) for hole in NO_HOLES + BEYOND) + NO_HOLES + NO_NUMBERS
NO_NAMES = NO_NUMBERS + tuple(thing for thing in NO_HOLES if not isinstance(thing, int)) + (
    -1, -2, -3, -FAR, 10 ** 59, "0", "2", (0,), [0], 0.0, 2.0, 1j, "front", "red",
)


def cloth_of(*worked):
    """A cloth on which these were worked, each a thread and a colour."""
    cloth = Cloth()
    for thread, colour in worked:
        cloth.work(thread, colour)
    return cloth


def state(cloth):
    return [cloth.threads(), cloth.shows("front"), cloth.shows("back")]


class ClothCase(unittest.TestCase):
    def assert_taken(self, cloth, thread, face, line):
        before = state(cloth)
        for again in range(2):
            with self.assertRaises(Taken) as refused:
                cloth.work(thread, "white")
            self.assertEqual((refused.exception.face, refused.exception.line), (face, line))
            self.assertEqual(state(cloth), before)

    def assert_no_name(self, cloth, number):
        before = state(cloth)
        with self.assertRaises(NoName):
            cloth.pull(number)
        self.assertEqual(state(cloth), before)


class WorkTest(ClothCase):
    def test_numbers_rise_from_nought(self):
        cloth = Cloth()
        threads = [(FACES[at % 2], ((at, 0), (at, 5), (at + 1, 0))) for at in range(0, 100, 2)]
        numbers = [cloth.work(thread, "red") for thread in threads]
        self.assertEqual(numbers, list(range(50)))
        self.assertEqual({number.__class__ for number in numbers}, {int})
        self.assertEqual(cloth.threads(), [(at, "red", thread) for at, thread in enumerate(threads)])

    def test_one_that_begins_on_the_front(self):
        cloth = Cloth()
        self.assertEqual(cloth.work(CORNER, "red"), 0)
        self.assertEqual(state(cloth), [[(0, "red", CORNER)], [(EAST, "red")], [(NORTH, "red")]])

    def test_one_that_begins_on_the_back(self):
        cloth = Cloth()
        self.assertEqual(cloth.work(HOOK, "blue"), 0)
        self.assertEqual(state(cloth), [
            [(0, "blue", HOOK)], [(NORTH, "blue")], [(EAST, "blue"), (SLANT, "blue")],
        ])

    def test_the_same_line_on_the_other_face_is_let_in(self):
        cloth = cloth_of((("front", EAST), "red"))
        self.assertEqual(cloth.work(("back", EAST), "blue"), 1)
        self.assertEqual(state(cloth)[1:], [[(EAST, "red")], [(EAST, "blue")]])
        # of one thread, too, there and back
        cloth = Cloth()
        self.assertEqual(cloth.work(("back", ((1, 0), (0, 0), (1, 0))), "red"), 0)
        self.assertEqual(state(cloth)[1:], [[(EAST, "red")], [(EAST, "red")]])

    def test_one_hole_may_be_used_by_many(self):
        cloth = Cloth()
        for at in range(1, 10):
            self.assertEqual(cloth.work(("front", ((0, 0), (at, 9))), "red"), at - 1)

    def test_lines_that_cross_are_let_in(self):
        cloth = cloth_of((("front", ((0, 0), (2, 2))), "red"))
        self.assertEqual(cloth.work(("front", ((0, 2), (2, 0))), "red"), 1)
        self.assertEqual(cloth.work(("front", ((0, 0), (1, 1))), "red"), 2)

    def test_at_the_rim_and_with_four_hundred_holes(self):
        cloth = Cloth()
        self.assertEqual(cloth.work(("front", ((FAR, FAR), (FAR - 9, FAR - 9), (FAR, FAR))), "red"), 0)
        self.assertEqual(cloth.work(("back", ((-FAR, -FAR), (-FAR, 9 - FAR))), "red"), 1)
        self.assertEqual(cloth.work(("front", ahead(400)), "abcdefgh"), 2)
        self.assertEqual(cloth.threads()[2], (2, "abcdefgh", ("front", ahead(400))))

    def test_colours_do_not_part_what_is_taken(self):
        for colour in ("red", "blue"):
            cloth = cloth_of((("front", EAST), "red"))
            with self.assertRaises(Taken):
                cloth.work(("front", EAST), colour)


class TakenTest(ClothCase):
    def test_by_another_thread(self):
        for face in FACES:
            cloth = cloth_of(((face, EAST), "red"))
            self.assert_taken(cloth, (face, EAST), face, EAST)
            self.assert_taken(cloth, (face, EAST[::-1]), face, EAST)

    def test_by_a_later_stitch_of_another_thread(self):
        cloth = cloth_of((HOOK, "red"))
        self.assert_taken(cloth, ("back", EAST), "back", EAST)
        self.assert_taken(cloth, ("front", NORTH), "front", NORTH)
        self.assert_taken(cloth, ("back", SLANT), "back", SLANT)
        self.assertEqual(cloth.work(("front", EAST), "red"), 1)
        self.assertEqual(cloth.work(("back", NORTH), "red"), 2)
        self.assertEqual(cloth.work(("front", SLANT), "red"), 3)

    def test_by_any_of_many_threads(self):
        lines = [((at, 0), (at, 9)) for at in range(20)]
        cloth = cloth_of(*((("front", line), "red") for line in lines))
        for line in lines:
            self.assert_taken(cloth, ("front", line), "front", line)
            self.assert_taken(cloth, ("back", ((line[0][0], 5),) + line), "front", line)

    def test_by_its_own_stitch_ahead(self):
        self.assert_taken(Cloth(), ("front", to_and_fro(4)), "front", EAST)
        self.assert_taken(Cloth(), ("back", to_and_fro(4)), "back", EAST)
        self.assert_taken(Cloth(), ("front", to_and_fro(400)), "front", EAST)
        three = ((0, 0), (1, 0), (0, 1))
        # Round three holes, once: each line lies on one face; twice: on both; and then again.
        self.assertEqual(Cloth().work(("front", three * 2 + three[:1]), "red"), 0)
        self.assert_taken(Cloth(), ("front", three * 2 + three[:2]), "front", EAST)
        self.assert_taken(Cloth(), ("back", three * 2 + three), "back", EAST)

    def test_by_its_own_stitch_the_other_way_about(self):
        around = ((0, 0), (1, 0), (2, 2), (3, 1), (1, 0), (0, 0))
        self.assertEqual([face for face, line in sewn(("front", around)) if line == EAST], ["front", "front"])
        self.assert_taken(Cloth(), ("front", around), "front", EAST)
        self.assert_taken(Cloth(), ("back", around), "back", EAST)

    def test_the_first_such_stitch_is_told(self):
        cloth = cloth_of((("front", EAST), "red"), (("back", NORTH), "red"))
        self.assert_taken(cloth, CORNER, "front", EAST)
        self.assert_taken(cloth, ("back", CORNER[1][::-1]), "back", NORTH)
        self.assert_taken(cloth, ("back", ((5, 5), (1, 0), (0, 0), (0, 1))), "front", EAST)
        self.assert_taken(cloth, ("front", ((5, 5), (0, 1), (0, 0), (1, 0))), "back", NORTH)

    def test_one_of_its_own_ahead_of_one_of_another_and_behind_it(self):
        cloth = cloth_of((("back", NORTH), "red"))
        own_first = ("front", ((5, 0), (5, 5), (5, 0), (5, 5), (0, 1), (2, 2), (0, 0), (0, 1)))
        self.assertEqual(sewn(own_first)[6], ("front", NORTH))
        self.assert_taken(cloth, own_first, "front", ((5, 0), (5, 5)))
        other_first = ("front", ((1, 0), (0, 0), (0, 1), (5, 5), (5, 0), (5, 5), (5, 0), (5, 5)))
        self.assert_taken(cloth, other_first, "back", NORTH)

    def test_at_its_last_stitch_nothing_of_it_stays(self):
        cloth = cloth_of((("front", SLANT), "red"))
        holes = ((4, 4), (0, 0), (0, 1), (2, 2), (1, 0), (0, 1))
        self.assert_taken(cloth, ("front", holes), "front", SLANT)
        for face, line in sewn(("front", holes[:-1])):
            cloth.work((face, line), "blue")
        self.assertEqual(len(cloth.threads()), 5)

    def test_the_number_that_it_would_have_had_goes_to_the_next(self):
        cloth = cloth_of((("front", EAST), "red"))
        for again in range(3):
            self.assert_taken(cloth, CORNER, "front", EAST)
        self.assertEqual(cloth.work(("back", EAST), "red"), 1)
        self.assert_taken(cloth, HOOK, "back", EAST)
        self.assertEqual(cloth.work(("front", SLANT), "red"), 2)


class NoThreadTest(ClothCase):
    def test_what_is_no_thread_of_any_kind(self):
        for ahead_of_it in ((), ((("front", EAST), "red"), (("back", EAST), "red"), (("front", NORTH), "blue"))):
            cloth = cloth_of(*ahead_of_it)
            before = state(cloth)
            for at, thing in enumerate(NO_THREADS):
                with self.subTest(at=at):
                    with self.assertRaises(NoThread):
                        cloth.work(thing, "red")
                    self.assertEqual(state(cloth), before)
            self.assertEqual(cloth.work(("front", SLANT), "red"), len(ahead_of_it))

    def test_also_where_it_would_lie_on_taken_lines(self):
        cloth = cloth_of((("front", EAST), "red"), (("back", EAST), "red"))
        for thing in (
            ("front", list(EAST)), ["front", EAST], ("front", EAST + EAST[1:]), ("front", to_and_fro(401)),
            ("back", to_and_fro(4000)), ("front", EAST + ((11, 0),)), ("front", EAST + ((FAR + 1, 0),)),
            ("front", EAST, EAST), ("front", EAST + (None,)),
        ):
            with self.assertRaises(NoThread):
                cloth.work(thing, "red")
        self.assert_taken(cloth, ("front", to_and_fro(400)), "front", EAST)


class PullTest(ClothCase):
    def test_it_is_gone_and_its_lines_are_bare(self):
        cloth = cloth_of((CORNER, "red"), (("back", EAST), "blue"))
        self.assertIsNone(cloth.pull(0))
        self.assertEqual(state(cloth), [[(1, "blue", ("back", EAST))], [], [(EAST, "blue")]])
        self.assertEqual(cloth.work(CORNER, "green"), 2)
        self.assertEqual(state(cloth), [
            [(1, "blue", ("back", EAST)), (2, "green", CORNER)],
            [(EAST, "green")], [(NORTH, "green"), (EAST, "blue")],
        ])

    def test_its_lines_are_bare_one_by_one(self):
        for face, line in sewn(HOOK):
            cloth = cloth_of((HOOK, "red"))
            self.assert_taken(cloth, (face, line), face, line)
            cloth.pull(0)
            self.assertEqual(cloth.work((face, line), "red"), 1)

    def test_it_takes_just_its_own_lines_with_it(self):
        threads = [("front", EAST), ("back", EAST), ("back", SLANT[::-1]), ("front", NORTH), ("back", NORTH)]
        for at in range(len(threads)):
            cloth = cloth_of(*((thread, "red") for thread in threads))
            cloth.pull(at)
            left = threads[:at] + threads[at + 1:]
            for face in FACES:
                self.assertEqual(cloth.shows(face), sorted(
                    (ends(*holes), "red") for other, holes in left if other == face
                ))
            self.assertEqual([number for number, colour, thread in cloth.threads()], [
                number for number in range(5) if number != at
            ])

    def test_its_number_is_not_used_again(self):
        cloth = cloth_of((("front", EAST), "red"), (("front", NORTH), "red"), (("front", SLANT), "red"))
        cloth.pull(2)
        self.assertEqual(cloth.work(("front", SLANT), "red"), 3)
        cloth.pull(3)
        cloth.pull(0)
        cloth.pull(1)
        self.assertEqual(state(cloth), [[], [], []])
        self.assertEqual(cloth.work(("front", EAST), "red"), 4)
        self.assertEqual(cloth.threads(), [(4, "red", ("front", EAST))])
        for number in range(4):
            self.assert_no_name(cloth, number)

    def test_the_same_thread_again_and_again(self):
        cloth = Cloth()
        for at in range(50):
            self.assertEqual(cloth.work(HOOK, "red"), at)
            self.assert_taken(cloth, HOOK, "back", EAST)
            self.assertIsNone(cloth.pull(at))
            self.assert_no_name(cloth, at)

    def test_pulled_out_twice(self):
        cloth = cloth_of((("front", EAST), "red"), (("front", NORTH), "red"))
        cloth.pull(0)
        self.assert_no_name(cloth, 0)
        cloth.pull(1)
        self.assert_no_name(cloth, 1)
        self.assert_no_name(cloth, 0)

    def test_a_number_that_was_never_told(self):
        cloth = cloth_of((("front", EAST), "red"), (("front", NORTH), "red"))
        for number in (2, 3, 100, 10 ** 59, -1, -2, -3):
            self.assert_no_name(cloth, number)
        for number in (0, -1, 1):
            self.assert_no_name(Cloth(), number)

    def test_what_is_no_number_of_any_kind(self):
        cloth = cloth_of(*((("front", line), "red") for line in (EAST, NORTH, SLANT)))
        for at, thing in enumerate(NO_NAMES):
            with self.subTest(at=at):
                self.assert_no_name(cloth, thing)
                self.assert_no_name(Cloth(), thing)
        self.assertEqual(len(cloth.threads()), 3)

    def test_a_pull_that_is_refused_leaves_the_next_number(self):
        cloth = cloth_of((("front", EAST), "red"))
        self.assert_no_name(cloth, 1)
        self.assertEqual(cloth.work(("front", NORTH), "red"), 1)


class ShowsTest(ClothCase):
    def test_without_threads(self):
        cloth = Cloth()
        self.assertEqual(state(cloth), [[], [], []])
        cloth.work(HOOK, "red")
        cloth.pull(0)
        self.assertEqual(state(cloth), [[], [], []])

    def test_the_pictures_are_sorted_and_have_each_threads_colour(self):
        cloth = cloth_of(
            (("front", ((5, 5), (4, 4))), "white"), (("back", ((9, 9), (8, 8))), "red"), (HOOK, "blue"),
            (("front", ((1, 0), (0, 0), (-1, 0))), "black"), (("front", ((-FAR, 2), (1 - FAR, 2))), "red"),
        )
        self.assertEqual(cloth.shows("front"), [
            (((-FAR, 2), (1 - FAR, 2)), "red"), (NORTH, "blue"), (EAST, "black"), (((4, 4), (5, 5)), "white"),
        ])
        self.assertEqual(cloth.shows("back"), [
            (WEST, "black"), (EAST, "blue"), (SLANT, "blue"), (((8, 8), (9, 9)), "red"),
        ])

    def test_what_is_shown_is_a_picture(self):
        cloth = cloth_of((HOOK, "blue"), (("back", ((3, 3), (2, 2), (0, 5))), "red"))
        for face in FACES:
            self.assertEqual(cloth.shows(face), picture(cloth.shows(face)))
            self.assertIsInstance(cloth.shows(face), list)
            for pair in cloth.shows(face):
                self.assertIsInstance(pair, tuple)

    def test_120_lines_on_each_face(self):
        holes = [(at, at * 7 % 5) for at in range(241)]
        cloth = cloth_of((("front", tuple(holes)), "red"))
        self.assertEqual(cloth.shows("front"), [(line, "red") for line in list(zip(holes, holes[1:]))[::2]])
        self.assertEqual(cloth.shows("back"), [(line, "red") for line in list(zip(holes, holes[1:]))[1::2]])
        self.assertEqual([len(cloth.shows(face)) for face in FACES], [120, 120])

    def test_two_cloths_side_by_side(self):
        one, other = Cloth(), Cloth()
        self.assertEqual(one.work(CORNER, "red"), 0)
        self.assertEqual(state(other), [[], [], []])
        self.assertEqual(other.work(CORNER, "blue"), 0)
        self.assertEqual(one.work(("front", SLANT), "red"), 1)
        self.assertEqual(state(one), [
            [(0, "red", CORNER), (1, "red", ("front", SLANT))], [(EAST, "red"), (SLANT, "red")], [(NORTH, "red")],
        ])
        self.assertEqual(state(other), [[(0, "blue", CORNER)], [(EAST, "blue")], [(NORTH, "blue")]])
        self.assert_no_name(other, 1)
        one.pull(0)
        self.assertEqual(state(other), [[(0, "blue", CORNER)], [(EAST, "blue")], [(NORTH, "blue")]])
        self.assertEqual(state(one), [[(1, "red", ("front", SLANT))], [(SLANT, "red")], []])

    def test_many_deeds(self):
        """Beside a list of the threads that are there, from which all is reckoned anew."""
        for seed in range(12):
            dice = random.Random(seed)
            cloth, there, told = Cloth(), [], 0
            for deed in range(80):
                if there and dice.random() < 0.3:
                    gone = there.pop(dice.randrange(len(there)))
                    self.assertIsNone(cloth.pull(gone[0]))
                    self.assert_no_name(cloth, gone[0])
                    continue
                holes = [(dice.randrange(4), dice.randrange(4))]
                while len(holes) < dice.choice((2, 3, 4, 7)):
                    holes += [hole for hole in [(dice.randrange(4), dice.randrange(4))] if hole != holes[-1]]
                thread, colour = (dice.choice(FACES), tuple(holes)), dice.choice(("red", "blue"))
                laid = [stitch for number, own, each in there for stitch in sewn(each)]
                wrong = [each for at, each in enumerate(sewn(thread)) if each in laid + sewn(thread)[:at]]
                if wrong:
                    self.assert_taken(cloth, thread, *wrong[0])
                else:
                    self.assertEqual(cloth.work(thread, colour), told)
                    there.append((told, colour, thread))
                    told += 1
                self.assertEqual(cloth.threads(), there)
                for face in FACES:
                    self.assertEqual(cloth.shows(face), sorted(
                        (line, own) for number, own, each in there for at, line in sewn(each) if at == face
                    ))
            self.assertGreater(told, 15)


class AskersOwnTest(AskersOwn, unittest.TestCase):
    def askings(self):
        pulled = cloth_of((CORNER, "red"), (("back", EAST), "blue"), (("front", SLANT), "red"))
        pulled.pull(0)
        cloths = [Cloth(), cloth_of((CORNER, "red")), pulled]
        cloths.append(cloth_of(*((thread, "red") for thread in some_threads(20)[:2])))
        askings = [(cloth.threads, ()) for cloth in cloths]
        return askings + [(cloth.shows, (face,)) for cloth in cloths for face in FACES]

    def refusals(self):
        cloth = cloth_of((CORNER, "red"))
        return [
            (Taken, cloth.work, (CORNER, "red")), (NoName, cloth.pull, (7,)), (NoName, cloth.pull, ([0],)),
            (NoThread, cloth.work, (("front", [[0, 0], [1, 0]]), "red")), (NoThread, cloth.work, ([], "red")),
        ]

    def test_a_later_deed_changes_no_told_list(self):
        cloth = cloth_of((CORNER, "red"), (("back", EAST), "blue"))
        told = state(cloth)
        right = state(cloth)
        cloth.pull(0)
        cloth.work(("front", SLANT), "red")
        self.assertEqual(told, right)

    def test_changing_told_lists_changes_no_later_deed(self):
        cloth = cloth_of((CORNER, "red"))
        for told in state(cloth):
            told.clear()
        self.assert_told(cloth)
        for told in state(cloth):
            told.append((5, "red", ("front", SLANT)))
        self.assert_told(cloth)

    def assert_told(self, cloth):
        self.assertEqual(state(cloth), [[(0, "red", CORNER)], [(EAST, "red")], [(NORTH, "red")]])
        with self.assertRaises(Taken):
            cloth.work(CORNER, "red")
        with self.assertRaises(NoName):
            cloth.pull(5)
