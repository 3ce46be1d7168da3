"""Promises 23 and 24, the fewest threads and the paper, promise 3 as far as they go, and promise 2."""

import itertools
import random
import unittest

from bothfaces.cloths import Cloth
from bothfaces.fewest import fewest, paper
from bothfaces.forms import less
from bothfaces.pictures import colours
from bothfaces.pieces import need, pieces
from bothfaces.rows import threads_by
from bothfaces.threads import is_thread
from bothfaces.works import surplus, work_of
from tests.askers import AskersOwn
from tests.sewing import (
    AFAR, EAST, FACES, FAR, NORTH, RIGHT, SLANT, SOUTH, SQUARE, TOP, WEST, ends, ends_by_hole, heaps, made, moved,
    sewn, some_line, some_tied, some_works, stitches_asked, way,
)

STAR = sorted(ends((0, 0), (x, y)) for x in range(-5, 6) for y in range(-5, 6) if (x, y) != (0, 0))
LONG = [ends(*line) for line in way(*((x, x * 7 % 5) for x in range(241)))]


def grid(wide, high):
    """All lines to next holes, to the east and to the north, on so many holes."""
    lines = [((x, y), (x + 1, y)) for x in range(wide - 1) for y in range(high)]
    return lines + [((x, y), (x, y + 1)) for x in range(wide) for y in range(high - 1)]


def partly_matched(front, back):
    """All ways to tie some of these front lines with some of these back lines."""
    if not front:
        return [()]
    rest = partly_matched(front[1:], back)
    for at, line in enumerate(back):
        rest = rest + [((front[0], line),) + more for more in partly_matched(front[1:], back[:at] + back[at + 1:])]
    return rest


def all_ties(work):
    """Every list of ties that the work can have, but for their order."""
    by_hole = []
    for hole in sorted({hole for face, line in stitches_asked(work) for hole in line}):
        front, back = ([line for line in lines if hole in line] for lines in work)
        by_hole.append([[(hole, *two) for two in each] for each in partly_matched(front, back)])
    return [sum(choice, []) for choice in itertools.product(*by_hole)]


def tiny_works():
    """Works of few lines, on few holes."""
    lines = grid(2, 2) + [SLANT]
    works = []
    for kinds in itertools.product(range(4), repeat=len(lines)):
        works.append(made(*([line for line, kind in zip(lines, kinds) if kind & bit] for bit in (1, 2))))
    return [work for work in works if len(work[0]) + len(work[1]) <= 5]


def hung_rings(many):
    """Works of closed ways there and back, which hang together in a row, in a star, in a heap."""
    dice = random.Random(23)
    works = [(LONG[:120], LONG[:120]), (STAR, STAR), made(grid(8, 8), grid(8, 8))]
    for at in range(many):
        holes = [(0, 0)]
        lines = []
        while len(lines) < 119:
            x, y = dice.choice(holes[-dice.choice((1, 5, 200)):])
            other = (x + dice.randint(-9, 9), y + dice.randint(-9, 9))
            if other != (x, y):
                holes.append(other)
                lines.append(((x, y), other))
        works.append(made(lines, lines))
        # and the same with some more on one face
        works.append(made(lines, lines[:-1 - at] + [((0, 0), (3, -8))]))
    return works


def two_pictures(dice, wide):
    """A front and a back picture of some colours, with some lines that both have, in one colour or in two."""
    told = []
    for face in range(2):
        lines = [some_line(dice, wide, 3) for at in range(dice.choice((0, 5, 60)))]
        pairs = {line: dice.choice(("red", "blue", "green")) for line in lines}
        for line, colour in (told[0] if told else ()):
            if dice.random() < 0.5 and len(pairs) < 120:
                pairs.setdefault(line, dice.choice((colour, "red")))
        told.append(sorted(pairs.items()))
    return told


class FewestCase(unittest.TestCase):
    def assert_fewest(self, work, many=None):
        """All that promise 23 says but for there being no fewer; the threads are handed back."""
        told = fewest(work)
        self.assertIsInstance(told, list)
        for thread in told:
            self.assertIs(is_thread(thread), True)
        laid = [stitch for thread in told for stitch in sewn(thread)]
        self.assertEqual(sorted(laid), sorted(stitches_asked(work)))
        self.assertEqual(len(told), need(work) if many is None else many)
        return told

    def assert_comes_back(self, thread):
        face, holes = thread
        self.assertEqual(holes[0], holes[-1])
        self.assertEqual(len(holes) % 2, 1)


class FewestTest(FewestCase):
    def test_without_lines(self):
        self.assertEqual(fewest(([], [])), [])

    def test_one_line(self):
        for line in (EAST, SLANT, AFAR):
            (face, holes), = self.assert_fewest(([line], []), 1)
            self.assertEqual((face, ends(*holes)), ("front", line))
            (face, holes), = self.assert_fewest(([], [line]), 1)
            self.assertEqual((face, ends(*holes)), ("back", line))

    def test_one_line_on_both_faces(self):
        thread, = self.assert_fewest(([EAST], [EAST]), 1)
        self.assert_comes_back(thread)

    def test_of_one_face_alone_each_line_takes_a_thread(self):
        for lines in (SQUARE, STAR, LONG[:120], grid(8, 8)):
            self.assert_fewest(made(lines, []), len(lines))
            self.assert_fewest(made([], lines), len(lines))

    def test_by_turns(self):
        self.assert_fewest(made([EAST], [NORTH]), 1)
        self.assert_fewest(made([EAST, TOP], [RIGHT]), 1)
        thread, = self.assert_fewest(made([EAST, TOP], [NORTH, RIGHT]), 1)
        self.assert_comes_back(thread)
        self.assert_fewest(made(LONG[::2], LONG[1::2]), 1)
        self.assert_fewest(made(LONG[:120], LONG[120:]), 239)

    def test_alike_on_both_faces(self):
        for lines in (SQUARE, STAR, LONG[:120], grid(8, 8), [EAST, NORTH, SLANT], [WEST, EAST]):
            thread, = self.assert_fewest(made(lines, lines), 1)
            self.assertEqual(len(thread[1]), 2 * len(lines) + 1)
            self.assert_comes_back(thread)

    def test_alike_on_both_faces_in_many_pieces(self):
        for lines, many in ((SQUARE + moved(SQUARE, 5), 2), ([EAST, AFAR], 2), (moved(SQUARE, 9) + [EAST, SLANT], 2),
                            ([line for at in range(40) for line in moved([EAST, NORTH, SLANT], 3 * at)], 40)):
            for thread in self.assert_fewest(made(lines, lines), many):
                self.assert_comes_back(thread)

    def test_a_ring_that_hangs_at_a_thread(self):
        ring = ([((0, 0), (3, 3)), ((4, 0), (5, 5))], [((3, 3), (4, 0)), ((0, 0), (5, 5))])
        # at its first hole, at its last one, amid it; by a front line, by a back line, by both
        for front, back in (
            ([WEST], []), ([], [WEST]), ([WEST], [SOUTH]), ([SOUTH], [WEST]), ([EAST, TOP], [RIGHT]),
            ([RIGHT], [EAST, TOP]), ([NORTH], [SLANT]), ([((3, 3), (3, 9))], []), ([], [((4, 0), (9, 0))]),
            ([((3, 3), (2, 9))], [((2, 9), (5, 5))]),
        ):
            with self.subTest(front=front, back=back):
                self.assert_fewest(made(ring[0] + front, ring[1] + back), 1)

    def test_a_ring_of_two_stitches_that_hangs_at_a_thread(self):
        for front, back in (([WEST], []), ([], [WEST]), ([WEST], [SOUTH]), ([SLANT], []), ([], [SLANT])):
            for line in (EAST, NORTH):
                self.assert_fewest(made(front + [line], back + [line]), need(made(front, back)))

    def test_rings_that_hang_at_rings_that_hang_at_a_thread(self):
        chain = [((x, 0), (x + 1, 0)) for x in range(100)]
        self.assert_fewest(made(chain, chain), 1)
        for far in (((0, 0), (0, 5)), ((50, 0), (50, 5)), ((100, 0), (100, 5))):
            self.assert_fewest(made(chain + [far], chain), 1)
            self.assert_fewest(made(chain, chain + [far]), 1)
            self.assert_fewest(made(chain + [far], chain + moved([far], 200)), 2)

    def test_pieces_with_surplus_beside_pieces_without(self):
        front = SQUARE + moved(SQUARE, 5) + moved([EAST, NORTH], 20) + moved([EAST], 30)
        back = SQUARE + moved([NORTH, SLANT], 20)
        self.assert_fewest(made(front, back), 1 + 4 + 1 + 1)

    def test_120_lines_on_each_face(self):
        dice = random.Random(3)
        for wide, reach in ((6, 9), (11, 2), (12, 1), (40, 9), (90, 1)):
            lines = set()
            while len(lines) < 240:
                lines.add(some_line(dice, wide, reach))
            lines = sorted(lines)
            dice.shuffle(lines)
            for front, back in ((lines[:120], lines[120:]), (lines[:120], lines[:120]), (lines[:120], lines[60:180])):
                work = made(front, back)
                self.assertEqual([len(face) for face in work], [120, 120])
                self.assert_fewest(work)

    def test_some_works(self):
        for at, work in enumerate(some_works(250)):
            with self.subTest(at=at):
                self.assert_fewest(work)

    def test_some_works_alike_on_both_faces(self):
        for at, (front, back) in enumerate(some_works(60)):
            with self.subTest(at=at):
                told = self.assert_fewest((front, list(front)), len(pieces((front, front))))
                for thread in told:
                    self.assert_comes_back(thread)
                # one of them for each piece
                heaped = [sorted({line for face, line in sewn(thread)}) for thread in told]
                self.assertEqual(sorted(heaped), sorted(piece[0] for piece in pieces((front, front))))

    def test_rings_hung_together(self):
        for at, work in enumerate(hung_rings(6)):
            with self.subTest(at=at):
                self.assert_fewest(work)

    def test_no_fewer_do_it(self):
        """Beside all ways to tie the lines of tiny works, whichever makes the fewest threads."""
        works = tiny_works()
        self.assertGreater(len(works), 300)
        for at, work in enumerate(works):
            with self.subTest(at=at):
                self.assertEqual(len(fewest(work)), min(len(heaps(work, ties)) for ties in all_ties(work)))

    def test_somewhat_more_lines_are_not_refused(self):
        lines = way(*((x, 0) for x in range(301)))
        thread, = fewest((lines[::2], lines[1::2]))
        self.assertEqual(len(thread[1]), 301)
        thread, = fewest((lines[:250], lines[:250]))
        self.assertEqual(len(thread[1]), 501)
        self.assertEqual(len(fewest(([((0, 0), (12, 0)), ((0, 0), (0, FAR + 3))], []))), 2)


class PaperTest(FewestCase):
    def test_without_lines(self):
        self.assertEqual(paper(([], [])), [])

    def test_one_piece(self):
        self.assertEqual(paper(([EAST], [])), [((0, 0), [((0, 0), 1), ((1, 0), 1)], 1)])
        self.assertEqual(paper(([], [EAST])), [((0, 0), [((0, 0), -1), ((1, 0), -1)], 1)])
        self.assertEqual(paper(([EAST], [EAST])), [((0, 0), [], 1)])
        self.assertEqual(paper(made([EAST, WEST], [NORTH])), [
            ((-1, 0), [((-1, 0), 1), ((0, 0), 1), ((0, 1), -1), ((1, 0), 1)], 2),
        ])
        self.assertEqual(paper(made(SQUARE, [SLANT])), [
            ((0, 0), [((0, 0), 2), ((0, 1), 1), ((1, 0), 1), ((1, 1), 2)], 3),
        ])

    def test_the_least_hole_may_be_one_of_the_back_or_one_without_surplus(self):
        self.assertEqual(paper(made([EAST], [WEST])), [((-1, 0), [((-1, 0), -1), ((1, 0), 1)], 1)])
        self.assertEqual(paper(made([NORTH, TOP], [EAST])), [((0, 0), [((0, 1), 2), ((1, 0), -1), ((1, 1), 1)], 2)])
        self.assertEqual(paper(made([SLANT], [((0, -5), (1, 0))])), [((0, -5), [((0, -5), -1), ((0, 1), 1)], 1)])

    def test_many_pieces_in_their_order(self):
        front = moved([EAST], 30) + SQUARE + moved([EAST, NORTH], 20) + [AFAR]
        back = SQUARE + moved([SLANT], 20) + moved([NORTH], 9, 9)
        self.assertEqual(paper(made(front, back)), [
            (AFAR[0], [(AFAR[0], 1), (AFAR[1], 1)], 1),
            ((0, 0), [], 1),
            ((9, 9), [((9, 9), -1), ((9, 10), -1)], 1),
            ((20, 0), [((20, 0), 2)], 1),
            ((30, 0), [((30, 0), 1), ((31, 0), 1)], 1),
        ])

    def test_many_lines_at_one_hole(self):
        told, = paper((STAR, []))
        self.assertEqual((told[0], told[2]), ((-5, -5), 120))
        self.assertIn(((0, 0), 120), told[1])
        self.assertEqual(paper((STAR, STAR)), [((-5, -5), [], 1)])

    def test_of_some_works_piece_by_piece(self):
        for at, work in enumerate(some_works(80)):
            with self.subTest(at=at):
                told = paper(work)
                self.assertIsInstance(told, list)
                for row in told:
                    self.assertIsInstance(row, tuple)
                    self.assertIsInstance(row[1], list)
                parts = pieces(work)
                self.assertEqual([hole for hole, much, many in told], [
                    min(hole for face, line in stitches_asked(part) for hole in line) for part in parts
                ])
                self.assertEqual([much for hole, much, many in told], [surplus(part) for part in parts])
                self.assertEqual([many for hole, much, many in told], [need(part) for part in parts])
                self.assertEqual(sum(many for hole, much, many in told), len(fewest(work)))

    def assert_ends(self, work, threads):
        count = ends_by_hole(threads)
        for hole, much in [each for row in paper(work) for each in row[1]]:
            self.assertGreaterEqual(count.get(hole, 0), abs(much))

    def test_at_each_hole_of_a_surplus_ends_lie(self):
        for at, work in enumerate(some_works(120)):
            with self.subTest(at=at):
                self.assert_ends(work, fewest(work))
                # Where a piece has a surplus no ends lie elsewhere.
                rows = paper(work)
                wanted = sum(sum(abs(much) for hole, much in row[1]) or 2 for row in rows)
                self.assertEqual(sum(ends_by_hole(fewest(work)).values()), wanted)

    def test_whatever_threads_do_the_work(self):
        for at, (work, ties) in enumerate(some_tied(80)):
            with self.subTest(at=at):
                self.assert_ends(work, [thread for thread, closed in threads_by(work, ties)])
                # A stitch by itself is a thread of two holes.
                self.assert_ends(work, stitches_asked(work))


class WholeTest(FewestCase):
    """Promise 3: the threads of all colours, worked one by one on a cloth."""

    def work_all(self, front, back):
        cloth, threads = Cloth(), []
        for colour in sorted(set(colours(front) + colours(back))):
            for thread in fewest(work_of(front, back, colour)):
                self.assertEqual(cloth.work(thread, colour), len(threads))
                threads.append((colour, thread))
        return cloth, threads

    def some_pictures(self):
        dice = random.Random(33)
        return [two_pictures(dice, wide) for wide in (3, 6, 6, 20, 20) for again in range(12)]

    def test_they_lay_just_these_lines_in_their_colours(self):
        for at, (front, back) in enumerate(self.some_pictures()):
            with self.subTest(at=at):
                cloth, threads = self.work_all(front, back)
                self.assertEqual(cloth.shows("front"), front)
                self.assertEqual(cloth.shows("back"), back)
                self.assertEqual(cloth.threads(), [(at, *each) for at, each in enumerate(threads)])

    def test_pictures_alike_on_both_faces(self):
        for at, (front, back) in enumerate(self.some_pictures()):
            with self.subTest(at=at):
                cloth, threads = self.work_all(front, front)
                self.assertEqual(cloth.shows("front"), cloth.shows("back"))
                self.assertEqual(len(threads), sum(
                    len(pieces(work_of(front, front, colour))) for colour in colours(front)
                ))
                for colour, thread in threads:
                    self.assert_comes_back(thread)

    def test_a_thread_pulled_out_takes_just_its_own_lines_with_it(self):
        dice = random.Random(34)
        for at, (front, back) in enumerate(self.some_pictures()[::3]):
            with self.subTest(at=at):
                cloth, threads = self.work_all(front, back)
                shown = {"front": front, "back": back}
                for number in dice.sample(range(len(threads)), len(threads)):
                    colour, thread = threads[number]
                    self.assertIsNone(cloth.pull(number))
                    for face in FACES:
                        own = sorted((line, colour) for other, line in sewn(thread) if other == face)
                        shown[face] = less(shown[face], own)
                        self.assertEqual(cloth.shows(face), shown[face])
                self.assertEqual((shown, cloth.threads()), ({"front": [], "back": []}, []))


class AskersOwnTest(AskersOwn, unittest.TestCase):
    def askings(self):
        works = [made([], []), made([EAST], [EAST]), made(SQUARE, SQUARE), made([AFAR, EAST], [SLANT]),
                 made(SQUARE + [WEST], SQUARE), made([], SQUARE)] + some_works(6)
        return tuple((ask, ((list(front), list(back)),)) for ask in (fewest, paper) for front, back in works)

    def test_one_list_for_both_faces(self):
        lines = [EAST, SLANT]
        self.assertEqual(len(fewest((lines, lines))), 1)
        self.assertEqual(paper((lines, lines)), [((0, 0), [], 1)])
        self.assertEqual(lines, [EAST, SLANT])
