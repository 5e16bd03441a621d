"""Points 1.1 and 1.2: the errors."""

import unittest

from mendbooks import errors
from tests.samples import odd_values

INVALID = ("InvalidName", "InvalidForm", "InvalidScheme", "InvalidPicture", "InvalidDrawing", "InvalidBook",
           "InvalidShape", "InvalidPaper", "InvalidOperation")
KEEPING = {
    "ParseError": (errors.MendError, "number"),
    "UnknownName": (KeyError, "name"),
    "AbsentKey": (KeyError, "key"),
    "UnknownPath": (LookupError, "path"),
    "NoMend": (LookupError, "where"),
    "InvalidNumber": (IndexError, "value"),
    "NothingToUndo": (RuntimeError, "many"),
    "TooMany": (OverflowError, "limit"),
    "Refused": (ArithmeticError, "pledge"),
}


class Derivation(unittest.TestCase):

    def test_mend_error_is_a_value_error(self):
        self.assertEqual(errors.MendError.__bases__, (ValueError,))

    def test_invalid_ones_are_mend_errors(self):
        for name in INVALID:
            self.assertEqual(getattr(errors, name).__bases__, (errors.MendError,), name)

    def test_keeping_ones_are_derived_directly(self):
        for name, (base, _) in KEEPING.items():
            self.assertEqual(getattr(errors, name).__bases__, (base,), name)

    def test_there_are_no_others(self):
        found = {name for name, value in vars(errors).items() if isinstance(value, type)}
        self.assertEqual(found, {"MendError", *INVALID, *KEEPING})


class Keeping(unittest.TestCase):

    def test_any_value_is_kept(self):
        for name, (_, word) in KEEPING.items():
            for value in odd_values():
                with self.subTest(name=name, value=repr(value)[:80]):
                    self.assertIs(getattr(getattr(errors, name)(value), word), value)

    def test_value_by_keyword(self):
        for name, (_, word) in KEEPING.items():
            self.assertEqual(getattr(getattr(errors, name)(**{word: 5}), word), 5, name)

    def test_none_is_a_number_of_a_parse_error(self):
        self.assertIsNone(errors.ParseError(None).number)

    def test_value_is_needed(self):
        for name in KEEPING:
            with self.assertRaises(TypeError):
                getattr(errors, name)()

    def test_others_take_a_message(self):
        for name in ("MendError", *INVALID):
            self.assertIn("why", str(getattr(errors, name)("why")))

    def test_raised_ones_are_caught_by_their_bases(self):
        with self.assertRaises(ValueError):
            raise errors.ParseError(0)
        with self.assertRaises(LookupError):
            raise errors.UnknownName("t")
        with self.assertRaises(ArithmeticError):
            raise errors.TooMany(10)
