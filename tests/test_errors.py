"""The error classes of the interface."""

import unittest

from shapestring import errors

MADE_OF_A_TEXT = ("TooMany", "NoText", "NoCorner", "NoSide", "NoLetter", "NoCaps", "NoCode",
                  "NoDeed", "Taken", "Gone", "NoPast")
WITH_A_VALUE = ("NoSkin", "Spoilt", "NoWord")


class ErrorsTest(unittest.TestCase):

    def test_shape_error_stands_straight_under_value_error(self):
        self.assertEqual(errors.ShapeError.__bases__, (ValueError,))

    def test_each_stands_straight_under_shape_error(self):
        for name in MADE_OF_A_TEXT + WITH_A_VALUE:
            with self.subTest(name=name):
                self.assertEqual(getattr(errors, name).__bases__, (errors.ShapeError,))

    def test_none_stands_under_another(self):
        names = MADE_OF_A_TEXT + WITH_A_VALUE
        for one in names:
            for other in names:
                if one != other:
                    self.assertFalse(issubclass(getattr(errors, one), getattr(errors, other)))

    def test_the_others_are_made_of_a_text(self):
        for name in MADE_OF_A_TEXT + ("ShapeError",):
            with self.subTest(name=name):
                made = getattr(errors, name)
                with self.assertRaises(made) as caught:
                    raise made("some words")
                self.assertEqual(str(caught.exception), "some words")

    def test_no_skin_bears_its_fault(self):
        for fault in (("triple", 0), ("side", 3, (1, 2)), ("round", 5)):
            self.assertEqual(errors.NoSkin(fault).fault, fault)

    def test_spoilt_bears_its_kind(self):
        for kind in ("many", "triple", "side", "round"):
            self.assertEqual(errors.Spoilt(kind).kind, kind)

    def test_no_word_bears_its_at(self):
        for at in (0, 7):
            self.assertEqual(errors.NoWord(at).at, at)

    def test_those_with_a_value_are_raised_and_taken(self):
        for made in (errors.NoSkin(("round", 1)), errors.Spoilt("many"), errors.NoWord(2)):
            with self.assertRaises(errors.ShapeError) as caught:
                raise made
            self.assertIs(caught.exception, made)
            self.assertIsInstance(str(made), str)


if __name__ == "__main__":
    unittest.main()
