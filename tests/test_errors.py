"""The refusals, as the interface lists them for stage 1."""

import copy
import unittest

from bothfaces import errors
from bothfaces.errors import ClothError, NotWished, Taken

PLAIN = (
    "NoLine", "TwoColours", "TooMany", "NoHole", "NoDrawing", "NoThread", "NoName", "NoTie",
    "NoPlan", "NoNumber", "Busy", "Idle", "Bare", "NoChart", "NoRow",
)
TELLING = ("Taken", "NotWished")
LINE = ((0, 0), (1, 2))


def made(name):
    kind = getattr(errors, name)
    return kind("front", LINE) if name in TELLING else kind("refused")


class ErrorsTest(unittest.TestCase):
    def test_all_eighteen_are_there(self):
        own = [name for name, thing in vars(errors).items() if isinstance(thing, type)]
        self.assertEqual(sorted(own), sorted(PLAIN + TELLING + ("ClothError",)))
        self.assertEqual(len(own), 18)

    def test_the_one_above_all_stands_under_value_error(self):
        self.assertEqual(ClothError.__bases__, (ValueError,))

    def test_each_is_taken_as_cloth_error_and_as_value_error(self):
        for name in PLAIN + TELLING:
            for above in (ClothError, ValueError):
                with self.subTest(name=name, above=above), self.assertRaises(above):
                    raise made(name)

    def test_each_stands_right_under_cloth_error(self):
        for name in PLAIN + TELLING:
            with self.subTest(name=name):
                self.assertEqual(getattr(errors, name).__bases__, (ClothError,))

    def test_none_is_taken_as_another_one(self):
        for name in PLAIN + TELLING:
            for other in PLAIN + TELLING:
                with self.subTest(name=name, other=other):
                    self.assertEqual(isinstance(made(name), getattr(errors, other)), name == other)

    def test_plain_ones_are_made_with_words_or_without(self):
        for name in PLAIN + ("ClothError",):
            with self.subTest(name=name):
                self.assertEqual(str(getattr(errors, name)("why")), "why")
                self.assertIsInstance(getattr(errors, name)(), ClothError)

    def test_taken_and_not_wished_tell_face_and_line(self):
        for kind in (Taken, NotWished):
            for face in ("front", "back"):
                with self.subTest(kind=kind, face=face):
                    with self.assertRaises(kind) as caught:
                        raise kind(face, LINE)
                    self.assertEqual(caught.exception.face, face)
                    self.assertEqual(caught.exception.line, LINE)

    def test_face_and_line_belong_to_each_error_alone(self):
        for kind in (Taken, NotWished):
            one = kind("front", LINE)
            other = kind("back", ((5, 5), (6, 6)))
            self.assertEqual((one.face, one.line), ("front", LINE))
            self.assertEqual((other.face, other.line), ("back", ((5, 5), (6, 6))))

    def test_taken_and_not_wished_take_their_arguments_by_name(self):
        for kind in (Taken, NotWished):
            error = kind(line=LINE, face="back")
            self.assertEqual((error.face, error.line), ("back", LINE))

    def test_taken_and_not_wished_are_not_made_without_face_and_line(self):
        for kind in (Taken, NotWished):
            for given in ((), ("front",), ("front", LINE, 1)):
                with self.subTest(kind=kind, given=given), self.assertRaises(TypeError):
                    kind(*given)

    def test_a_copy_tells_the_same(self):
        for kind in (Taken, NotWished):
            again = copy.copy(kind("front", LINE))
            self.assertEqual((again.face, again.line), ("front", LINE))
