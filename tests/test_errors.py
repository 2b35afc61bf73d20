"""Points 1.1 and 1.2: the errors, what they are derived from, and what they keep."""

import unittest

from mayrows import errors

OWN = ("InvalidText", "InvalidRow", "InvalidTable", "InvalidPasses", "InvalidOperation", "InvalidPromise",
       "InvalidBook", "ParseError")
OTHERS = {"InvalidNumber": (IndexError, "given"), "UnknownName": (KeyError, "wanted"),
          "TooMany": (OverflowError, "most"), "Refused": (ArithmeticError, "reason"),
          "NothingToUndo": (LookupError, "many")}


class ErrorsTest(unittest.TestCase):

    def test_there_are_fourteen(self):
        found = [name for name in dir(errors) if isinstance(getattr(errors, name), type)]
        self.assertEqual(sorted(found), sorted(("MayrowError",) + OWN + tuple(OTHERS)))
        self.assertEqual(len(found), 14)
        for name in found:
            self.assertEqual(getattr(errors, name).__module__, "mayrows.errors")

    def test_own_errors_are_directly_derived(self):
        self.assertEqual(errors.MayrowError.__bases__, (ValueError,))
        for name in OWN:
            self.assertEqual(getattr(errors, name).__bases__, (errors.MayrowError,))

    def test_other_errors_are_derived_from_python_alone(self):
        for name, (base, kept) in OTHERS.items():
            self.assertEqual(getattr(errors, name).__bases__, (base,))

    def test_own_errors_take_a_message(self):
        for name in OWN[:-1] + ("MayrowError",):
            self.assertEqual(str(getattr(errors, name)("a message")), "a message")

    def test_what_is_kept(self):
        for value in ("x", 7, None, ("lost", 1), [2], {"a": 3}, 10 ** 99):
            self.assertIs(errors.ParseError(value).spot, value)
            for name, (base, kept) in OTHERS.items():
                self.assertIs(getattr(getattr(errors, name)(value), kept), value)

    def test_examples(self):
        kept = [errors.InvalidNumber("x").given, errors.TooMany(200).most, errors.Refused(("lost", 1)).reason,
                errors.ParseError(3).spot]
        self.assertEqual(kept, ["x", 200, ("lost", 1), 3])

    def test_they_are_caught_by_what_they_are_derived_from(self):
        for name in OWN:
            with self.assertRaises(ValueError):
                raise getattr(errors, name)("x")
        for name, (base, kept) in OTHERS.items():
            with self.assertRaises(base):
                raise getattr(errors, name)(("x", 1))
            self.assertNotIsInstance(getattr(errors, name)(1), ValueError)
