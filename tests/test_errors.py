"""[1.1]: the errors, from what they are derived, and what they keep."""

import unittest

from slopewords import errors

PLAIN = (
    "InvalidPoly", "InvalidFunction", "InvalidPlace", "InvalidTable", "InvalidOperator", "InvalidName",
    "InvalidOperation",
)
KEEPING = (
    ("ParseError", errors.SlopeError, "spot"), ("InvalidNumber", IndexError, "given"),
    ("UnknownName", KeyError, "wanted"), ("TooMany", OverflowError, "limit"),
    ("Refused", ArithmeticError, "reason"), ("NothingToUndo", LookupError, "steps"),
)


class ErrorsTest(unittest.TestCase):
    def test_1_1_bases(self):
        self.assertEqual(errors.SlopeError.__bases__, (ValueError,))
        for name in PLAIN:
            self.assertEqual(getattr(errors, name).__bases__, (errors.SlopeError,))
        for name, base, _ in KEEPING:
            self.assertEqual(getattr(errors, name).__bases__, (base,))

    def test_1_1_message(self):
        for name in ("SlopeError", *PLAIN):
            self.assertEqual(str(getattr(errors, name)("a message")), "a message")

    def test_1_1_kept(self):
        for name, _, attribute in KEEPING:
            for value in (3, None, True, "round", ("common",), [1], {"a": 2}, 10 ** 99):
                error = getattr(errors, name)(value)
                self.assertIs(getattr(error, attribute), value)
                self.assertEqual(repr(error), f"{name}({value!r})")


if __name__ == "__main__":
    unittest.main()
