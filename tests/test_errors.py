"""Point [4]: the errors."""

import unittest

from listpicks import errors
from listpicks.errors import InvalidCommand, InvalidLists, InvalidPaper, InvalidPolynomial, InvalidQuestion
from listpicks.errors import InvalidText, PickError, Refused

WITH_PLACE = (InvalidPolynomial, InvalidLists, InvalidText, InvalidPaper, InvalidQuestion, Refused)


class Errors(unittest.TestCase):
    def test_pick_error_is_a_value_error(self):
        self.assertEqual(PickError.__bases__, (ValueError,))
        with self.assertRaises(ValueError):
            raise PickError("so")

    def test_all_others_are_direct_subclasses(self):
        for kind in WITH_PLACE + (InvalidCommand,):
            self.assertEqual(kind.__bases__, (PickError,), kind)

    def test_none_is_derived_from_another(self):
        kinds = WITH_PLACE + (InvalidCommand,)
        for kind in kinds:
            for other in kinds:
                self.assertEqual(issubclass(kind, other), kind is other)

    def test_any_value_is_kept_as_at(self):
        thing = object()
        for kind in WITH_PLACE:
            for at in (0, 3, 10 ** 5000, None, "text", (1, 2), [], thing):
                self.assertIs(kind(at).at, at)
                self.assertIs(kind(at=at).at, at)

    def test_they_can_be_raised_and_caught(self):
        for kind in WITH_PLACE:
            with self.assertRaises(PickError) as caught:
                raise kind(4)
            self.assertEqual(caught.exception.at, 4)
            self.assertIs(type(caught.exception), kind)
            self.assertIsInstance(str(caught.exception), str)

    def test_arguments(self):
        for kind in WITH_PLACE:
            self.assertRaises(TypeError, kind)
            self.assertRaises(TypeError, kind, 1, 2)
        self.assertIsInstance(InvalidCommand(), PickError)
        self.assertFalse(hasattr(InvalidCommand(), "at"))

    def test_errors_equal_nothing_of_another_kind(self):
        for kind in WITH_PLACE:
            self.assertNotEqual(kind(4), 4)
            self.assertNotEqual(kind(4), errors.PickError(4))


if __name__ == "__main__":
    unittest.main()
