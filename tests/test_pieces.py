"""Promises 15 and 16, the pieces of a work and its need, and promise 2 as far as it speaks of them."""

import unittest

from bothfaces.pieces import need, pieces
from bothfaces.works import surplus
from tests.askers import AskersOwn
from tests.sewing import AFAR, EAST, FAR, NORTH, RIGHT, SLANT, SQUARE, TOP, WEST, made, moved, some_works, way


def by_turns(lines):
    """The work of lines with numbers: those of even ones on the front, those of odd ones on the back."""
    return made(*([line for number, line in lines if number % 2 == face] for face in range(2)))


def merged(work):
    """The pieces, by joining heaps of lines that have an end in common until no two have."""
    heaps = []
    for face, line in [(face, line) for face in range(2) for line in work[face]]:
        near = [heap for heap in heaps if any(set(line) & set(other) for own, other in heap)]
        heaps = [heap for heap in heaps if heap not in near] + [sum(near, [(face, line)])]
    heaps = sorted(heaps, key=lambda heap: min(hole for face, line in heap for hole in line))
    return [tuple(sorted(line for own, line in heap if own == face) for face in range(2)) for heap in heaps]


class PiecesTest(unittest.TestCase):
    def assert_pieces(self, work, *wanted):
        told = pieces(work)
        self.assertEqual(told, list(wanted))
        self.assertIsInstance(told, list)
        for piece in told:
            self.assertIsInstance(piece, tuple)
            for lines in piece:
                self.assertIsInstance(lines, list)

    def test_without_lines(self):
        self.assert_pieces(([], []))

    def test_one_line(self):
        self.assert_pieces(([EAST], []), ([EAST], []))
        self.assert_pieces(([], [EAST]), ([], [EAST]))
        self.assert_pieces(([AFAR], []), ([AFAR], []))

    def test_a_line_of_both_faces(self):
        self.assert_pieces(([EAST], [EAST]), ([EAST], [EAST]))
        self.assert_pieces(made([EAST, AFAR], [EAST]), ([AFAR], []), ([EAST], [EAST]))

    def test_lines_of_one_face_alone(self):
        self.assert_pieces(made(SQUARE, []), made(SQUARE, []))
        self.assert_pieces(made([], SQUARE), made([], SQUARE))
        self.assert_pieces(made([EAST, AFAR], []), ([AFAR], []), ([EAST], []))
        self.assert_pieces(made([], [EAST, AFAR]), ([], [AFAR]), ([], [EAST]))

    def test_a_front_line_and_a_back_line(self):
        self.assert_pieces(([EAST], [NORTH]), ([EAST], [NORTH]))
        self.assert_pieces(([EAST], [TOP]), ([EAST], []), ([], [TOP]))

    def test_an_end_in_common_first_or_second(self):
        middle = ((0, 0), (3, 3))
        for other in (((-1, 5), (0, 0)), ((0, 0), (3, 4)), ((3, 3), (4, 0)), ((2, 9), (3, 3))):
            for work in (made([middle, other], []), made([], [middle, other]), made([middle], [other])):
                with self.subTest(other=other):
                    self.assert_pieces(work, work)

    def test_a_hole_of_alike_x_or_y_alone_is_no_end_in_common(self):
        self.assert_pieces(
            made([((0, 0), (1, 1)), ((0, 1), (1, 0)), ((0, 2), (1, 2))], [((2, 0), (2, 1))]),
            ([((0, 0), (1, 1))], []), ([((0, 1), (1, 0))], []), ([((0, 2), (1, 2))], []), ([], [((2, 0), (2, 1))]),
        )

    def test_lines_that_cross_do_not_hang_together(self):
        one, other = ((0, 0), (2, 2)), ((0, 2), (2, 0))
        for work, wanted in (
            (([one, other], []), (([one], []), ([other], []))),
            (([one], [other]), (([one], []), ([], [other]))),
            (([], [one, other]), (([], [one]), ([], [other]))),
        ):
            self.assert_pieces(work, *wanted)

    def test_a_line_that_goes_over_a_hole_or_lies_on_another_line(self):
        long = ((0, 0), (4, 0))
        self.assert_pieces(made([long, ((2, 0), (2, 3))], []), ([long], []), ([((2, 0), (2, 3))], []))
        self.assert_pieces(made([long], [((1, 0), (3, 0))]), ([long], []), ([], [((1, 0), (3, 0))]))

    def test_over_many_steps(self):
        lines = way(*((x, 0) for x in range(121)))
        self.assert_pieces(made(lines, []), made(lines, []))
        self.assert_pieces(made(lines[:60] + lines[61:], []), made(lines[:60], []), made(lines[61:], []))

    def test_by_lines_of_both_faces_by_turns(self):
        lines = list(enumerate(way(*((x, x * 7 % 5) for x in range(241)))))
        work = by_turns(lines)
        self.assertEqual([len(face) for face in work], [120, 120])
        self.assert_pieces(work, work)
        # Without one of them, of either face, there are two.
        for at in (1, 120, 121, 238):
            with self.subTest(at=at):
                first, second = lines[:at], lines[at + 1:]
                self.assert_pieces(by_turns(first + second), by_turns(first), by_turns(second))

    def test_the_order_of_the_list_is_not_the_order_in_which_they_hang_together(self):
        # Many lines from the west to the east, which hang together by what lies further on in the list.
        lines = [((0, y), (9, y)) for y in range(0, 20, 2)] + [((9, y), (9, y + 2)) for y in range(0, 18, 2)]
        self.assert_pieces(made(lines, []), made(lines, []))
        self.assert_pieces(made(lines[:10], lines[10:]), made(lines[:10], lines[10:]))
        self.assert_pieces(made(lines[:-1], []), made(lines[:9] + lines[10:-1], []), made(lines[9:10], []))

    def test_a_way_that_comes_back_on_its_own_columns(self):
        # From hole to hole of a narrow cloth, in an order that is not that of the holes.
        holes = [(at * 7 % 10, at * 3 % 10) for at in range(11)]
        lines = way(*holes)
        self.assertNotEqual(lines, sorted(lines))
        self.assert_pieces(made(lines[:5], lines[5:]), made(lines[:5], lines[5:]))
        self.assert_pieces(made(lines[::2], lines[1::2]), made(lines[::2], lines[1::2]))

    def test_two_combs_within_one_another(self):
        one = way(*((x, 0) for x in range(0, 40, 2)))
        other = way(*((x, 1) for x in range(1, 41, 2)))
        self.assert_pieces(made(one + other, []), made(one, []), made(other, []))
        self.assert_pieces(made(one, other), made(one, []), made([], other))
        # tied by a single line, of either face
        tie = ((38, 0), (39, 1))
        self.assert_pieces(made(one + other + [tie], []), made(one + other + [tie], []))
        self.assert_pieces(made(one + other, [tie]), made(one + other, [tie]))

    def test_sorted_by_their_least_holes_as_numbers(self):
        holes = [(-10, 3), (-9, 5), (-9, 7), (-1, -20), (2, 0), (2, 9), (2, 11), (10, -3), (10, 20)]
        lines = [(hole, (hole[0], hole[1] + 1)) for hole in holes]
        self.assert_pieces(
            made(lines[::2], lines[1::2]),
            *(([line], []) if at % 2 == 0 else ([], [line]) for at, line in enumerate(lines)),
        )

    def test_sorted_by_the_least_hole_whichever_face_it_is_of(self):
        # The first front lines stand the other way about: the order is that of the back's holes.
        one = made([((5, 0), (6, 0))], [((-4, 0), (5, 0))])
        other = made([((2, 3), (3, 3))], [((3, 3), (4, 3))])
        self.assert_pieces(made(one[0] + other[0], one[1] + other[1]), one, other)

    def test_a_hundred_and_twenty_lines_on_each_face(self):
        lines = [((x, 0), (x, 1)) for x in range(120)]
        self.assert_pieces((lines, list(lines)), *(([line], [line]) for line in lines))
        above = moved(lines, 0, 5)
        self.assert_pieces(
            (lines, above), *(piece for at in range(120) for piece in (([lines[at]], []), ([], [above[at]])))
        )
        joined = moved(lines, 0, 1)
        self.assert_pieces((lines, joined), *(([lines[at]], [joined[at]]) for at in range(120)))

    def test_at_the_rim_of_the_cloth(self):
        corner = ((FAR - 9, FAR), (FAR, FAR))
        self.assert_pieces(made([corner, AFAR], [EAST]), ([AFAR], []), ([], [EAST]), ([corner], []))

    def test_merged_heap_by_heap(self):
        counts = set()
        for at, work in enumerate(some_works(200)):
            with self.subTest(at=at):
                wanted = merged(work)
                self.assert_pieces(work, *wanted)
                counts.add(min(len(wanted), 3))
        self.assertEqual(counts, {0, 1, 2, 3})

    def test_every_line_of_each_face_in_just_one_piece(self):
        for at, work in enumerate(some_works(80)):
            with self.subTest(at=at):
                told = pieces(work)
                for face in range(2):
                    self.assertEqual(sorted(line for piece in told for line in piece[face]), work[face])

    def test_a_piece_is_its_own_one_piece(self):
        for work in some_works(60):
            for piece in pieces(work):
                self.assertEqual(pieces(piece), [piece])


class NeedTest(unittest.TestCase):
    def test_without_lines(self):
        self.assertEqual(need(([], [])), 0)

    def test_a_piece_with_surplus(self):
        for work, wanted in (
            (made([EAST], []), 1),
            (made([], [EAST]), 1),
            (made([EAST], [NORTH]), 1),
            (made([EAST, NORTH], []), 2),
            (made([EAST, NORTH, WEST], []), 3),
            (made([], [EAST, NORTH, WEST]), 3),
            (made([EAST, NORTH], [WEST]), 2),
            (made(SQUARE, []), 4),
            (made(SQUARE, SQUARE[:1]), 3),
            (made([EAST, TOP], [NORTH]), 1),
        ):
            with self.subTest(work=work):
                self.assertEqual(need(work), wanted)

    def test_a_piece_without_surplus_needs_one(self):
        for work in (made([EAST], [EAST]), made(SQUARE, SQUARE), made([EAST, TOP], [NORTH, RIGHT])):
            with self.subTest(work=work):
                self.assertEqual(surplus(work), [])
                self.assertEqual(need(work), 1)

    def test_sizes_count_without_their_signs(self):
        # 1 and -1: together they make 0, but a thread ends at each.
        work = made([EAST], [NORTH])
        self.assertEqual(sorted(much for hole, much in surplus(work)), [-1, 1])
        self.assertEqual(need(work), 1)
        work = made([EAST, NORTH], [((5, 5), (6, 6)), ((5, 5), (6, 5)), ((1, 0), (5, 5)), ((0, 1), (5, 5))])
        self.assertEqual(surplus(work), [((0, 0), 2), ((5, 5), -4), ((6, 5), -1), ((6, 6), -1)])
        self.assertEqual(need(work), 4)

    def test_a_work_of_many_pieces_is_the_sum(self):
        # without surplus each needs one
        lines = [((x, 0), (x, 1)) for x in range(120)]
        self.assertEqual(need((lines, list(lines))), 120)
        self.assertEqual(need((lines, lines[:60])), 120)
        self.assertEqual(need((lines, [])), 120)
        self.assertEqual(need((lines, moved(lines, 0, 5))), 240)
        self.assertEqual(need((lines, moved(lines, 0, 1))), 120)
        # one with surplus beside one without
        self.assertEqual(need(made(SQUARE + moved(SQUARE, 7), moved(SQUARE, 7))), 5)
        self.assertEqual(need(made(SQUARE + moved(SQUARE, 7), SQUARE + moved(SQUARE, 7))), 2)
        # three without, two with
        front = SQUARE + moved(SQUARE, 7) + moved(SQUARE, 14) + moved([EAST, WEST], 30) + moved([EAST], 40)
        back = SQUARE + moved(SQUARE, 7) + moved(SQUARE, 14) + moved([NORTH], 40)
        self.assertEqual(need(made(front, back)), 6)

    def test_surplus_of_pieces_is_not_set_off_against_one_another(self):
        self.assertEqual(need(made([EAST], moved([EAST], 5))), 2)

    def test_many_lines_at_one_hole(self):
        star = [((0, 0), (x, y)) for x in range(-5, 6) for y in range(-5, 6) if (x, y) != (0, 0)]
        self.assertEqual(need(made(star, [])), 120)
        self.assertEqual(need(made(star, star)), 1)
        self.assertEqual(need(made(star[:70], star[70:])), 70)
        self.assertEqual(need(made(star, star[:119])), 1)

    def test_a_long_way_by_turns(self):
        lines = way(*((x, x * 7 % 5) for x in range(241)))
        self.assertEqual(need(made(lines[::2], lines[1::2])), 1)
        self.assertEqual(need(made(lines[:120], lines[120:])), 239)

    def test_from_the_surplus_of_the_merged_pieces(self):
        for at, work in enumerate(some_works(150)):
            with self.subTest(at=at):
                sizes = [sum(abs(much) for hole, much in surplus(piece)) for piece in merged(work)]
                self.assertEqual([size % 2 for size in sizes], [0] * len(sizes))
                self.assertEqual(need(work), sum(size // 2 or 1 for size in sizes))
                self.assertEqual(need(work), sum(need(piece) for piece in pieces(work)))
                self.assertIs(need(work).__class__, int)

    def test_faces_changed_about_it_stays(self):
        for front, back in some_works(60):
            self.assertEqual(need((back, front)), need((front, back)))

    def test_alike_on_both_faces_each_piece_needs_one(self):
        for front, back in some_works(60):
            work = (front, list(front))
            self.assertEqual(need(work), len(pieces(work)))


class AskersOwnTest(AskersOwn, unittest.TestCase):
    def askings(self):
        works = [made([], []), made([EAST], [EAST]), made(SQUARE, [WEST]), made([AFAR, EAST], [SLANT]),
                 made(SQUARE, []), made([], SQUARE)] + some_works(6)
        return tuple((ask, ((list(front), list(back)),)) for ask in (pieces, need) for front, back in works)

    def test_one_list_for_both_faces(self):
        lines = [EAST, SLANT]
        front, back = pieces((lines, lines))[0]
        front.append("mine")
        self.assertEqual(back, [EAST, SLANT])
        self.assertEqual(lines, [EAST, SLANT])
