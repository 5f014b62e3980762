"""The errors: what they derive from, and what they keep."""

import unittest

from rowsthrough import errors

PLAIN = (
    "InvalidField", "InvalidWord", "InvalidMatrix", "InvalidPolynomial", "InvalidCode", "InvalidNet", "InvalidPoints",
    "InvalidLinks", "InvalidName", "InvalidText", "InvalidOperation",
)
KEPT = {
    "InvalidNumber": (IndexError, "given"),
    "UnknownName": (KeyError, "asked"),
    "ParseError": (errors.RowError, "spot"),
    "NothingToUndo": (LookupError, "wanted"),
    "TooMany": (OverflowError, "limit"),
    "Refused": (ArithmeticError, "reason"),
}
VALUES = ("a message", 0, -1, 10 ** 61, None, True, (), ("sign", 1), ["x"], {"a": 1})


class Errors(unittest.TestCase):
    def test_base(self):
        self.assertEqual(errors.RowError.__bases__, (ValueError,))

    def test_plain_ones_derive_directly_from_the_base(self):
        for name in PLAIN:
            self.assertEqual(getattr(errors, name).__bases__, (errors.RowError,), name)

    def test_others_derive_directly_from_errors_of_python_or_the_base(self):
        for name, (base, _) in KEPT.items():
            self.assertEqual(getattr(errors, name).__bases__, (base,), name)

    def test_only_those_of_the_base_are_row_errors(self):
        for name in ("InvalidNumber", "UnknownName", "NothingToUndo", "TooMany", "Refused"):
            self.assertFalse(issubclass(getattr(errors, name), errors.RowError), name)
            self.assertFalse(issubclass(getattr(errors, name), ValueError), name)
        self.assertFalse(issubclass(errors.NothingToUndo, (IndexError, KeyError)))
        self.assertFalse(issubclass(errors.InvalidField, LookupError))

    def test_kept_values(self):
        for name, (_, kept) in KEPT.items():
            for value in VALUES:
                error = getattr(errors, name)(value)
                self.assertIs(getattr(error, kept), value)
                with self.assertRaises(getattr(errors, name)):
                    raise error

    def test_plain_ones_take_a_message_or_any_value(self):
        for name in ("RowError", *PLAIN):
            for value in VALUES:
                error = getattr(errors, name)(value)
                self.assertIsInstance(error, errors.RowError)
                for _, kept in KEPT.values():
                    self.assertFalse(hasattr(error, kept), name)

    def test_all_are_there_and_no_others(self):
        named = {name for name, value in vars(errors).items() if isinstance(value, type)}
        self.assertEqual(named, {"RowError", *PLAIN, *KEPT})
