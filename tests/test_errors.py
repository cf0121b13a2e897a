"""The errors: what each one derives from directly, and what it keeps."""

import unittest

from wildsteps import errors
from wildsteps.fields.fields import Field

BASES = {
    "WildError": ValueError,
    "InvalidPolynomial": errors.WildError,
    "InvalidField": errors.WildError,
    "InvalidMember": errors.WildError,
    "InvalidMap": errors.WildError,
    "InvalidTest": errors.WildError,
    "InvalidLot": errors.WildError,
    "InvalidName": errors.WildError,
    "InvalidOperation": errors.WildError,
    "ParseError": errors.WildError,
    "InvalidNumber": IndexError,
    "UnknownName": KeyError,
    "NothingToUndo": LookupError,
    "TooMany": OverflowError,
    "Refused": ArithmeticError,
}
KEPT = {
    "ParseError": "spot",
    "InvalidNumber": "given",
    "UnknownName": "asked",
    "NothingToUndo": "wanted",
    "TooMany": "limit",
    "Refused": "reason",
}
VALUES = (None, True, 0, -1, 10 ** 219, "", "a text", (), ("edit", 1, "many"), [1, [2]], {"a": 1}, Field.plain(2, 2))


class ErrorsTest(unittest.TestCase):

    def test_bases(self):
        for name, base in BASES.items():
            with self.subTest(name=name):
                self.assertEqual(getattr(errors, name).__bases__, (base,))

    def test_attributes_keep_any_value(self):
        for name, attribute in KEPT.items():
            for value in VALUES:
                with self.subTest(name=name, value=value):
                    kind = getattr(errors, name)
                    self.assertIs(getattr(kind(value), attribute), value)
                    self.assertIs(getattr(kind(**{attribute: value}), attribute), value)

    def test_others_take_one_value(self):
        for name in BASES:
            if name not in KEPT:
                for value in VALUES:
                    with self.subTest(name=name, value=value):
                        caught = getattr(errors, name)(value)
                        self.assertIsInstance(caught, ValueError)
                        self.assertIs(caught.args[0], value)

    def test_kept_errors_take_one_value(self):
        for name in KEPT:
            with self.subTest(name=name):
                with self.assertRaises(TypeError):
                    getattr(errors, name)()
                with self.assertRaises(TypeError):
                    getattr(errors, name)(1, 2)

    def test_they_are_caught_by_their_bases(self):
        for name, base in BASES.items():
            with self.subTest(name=name):
                with self.assertRaises(base):
                    raise getattr(errors, name)("word")


if __name__ == "__main__":
    unittest.main()
