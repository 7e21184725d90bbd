import copy
import unittest

from leftstanding import errors
from leftstanding.errors import (
    BadAgreement, BadLog, BadText, LeftError, NothingToUndo, Refused, TooMany, TooManyEdits, Unfit,
)
from samples import AGREEMENTS, any_values, same

PLAIN = (Unfit, BadText, TooManyEdits, NothingToUndo)
KEEPING = ((BadAgreement, "error"), (Refused, "deed"), (TooMany, "limit"), (BadLog, "place"))
ALL = PLAIN + tuple(error for error, name in KEEPING)


class Errors(unittest.TestCase):

    def test_left_error(self):
        self.assertTrue(issubclass(LeftError, ValueError))
        self.assertIsNot(LeftError, ValueError)

    def test_directly_under_left_error(self):
        for error in ALL:
            with self.subTest(error=error.__name__):
                self.assertEqual(error.__bases__, (LeftError,))
                self.assertTrue(issubclass(error, ValueError))

    def test_none_is_another_one(self):
        for one in ALL:
            for other in ALL:
                self.assertEqual(issubclass(one, other), one is other, (one, other))

    def test_defined_where_the_interface_lists_them(self):
        for error in ALL + (LeftError,):
            self.assertEqual(error.__module__, "leftstanding.errors")
            self.assertIs(getattr(errors, error.__name__), error)

    def test_without_arguments(self):
        for error in PLAIN:
            with self.subTest(error=error.__name__):
                with self.assertRaises(LeftError) as caught:
                    raise error()
                self.assertIs(caught.exception.__class__, error)

    def test_raised_and_caught(self):
        for error, name in KEEPING:
            for kind in (error, LeftError, ValueError):
                with self.assertRaises(kind) as caught:
                    raise error(("row", 0, 1))
                self.assertIs(caught.exception.__class__, error)
                self.assertEqual(getattr(caught.exception, name), ("row", 0, 1))

    def test_field_by_place_and_by_name(self):
        for error, name in KEEPING:
            for value in any_values() + list(AGREEMENTS) + [0, 1, -1, "form", ("kinds", 1)]:
                before = copy.deepcopy(value)
                for made in (error(value), error(**{name: value})):
                    self.assertIs(getattr(made, name), value)
                    self.assertTrue(same(value, before))

    def test_each_object_keeps_its_own(self):
        for error, name in KEEPING:
            one, other = error(1), error(True)
            self.assertIs(getattr(one, name), 1)
            self.assertIs(getattr(other, name), True)

    def test_can_be_shown(self):
        for error in PLAIN:
            self.assertIs(str(error()).__class__, str)
        for error, name in KEEPING:
            for value in any_values():
                self.assertIs(str(error(value)).__class__, str)
                self.assertIs(repr(error(**{name: value})).__class__, str)


if __name__ == "__main__":
    unittest.main()
