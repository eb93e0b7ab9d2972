"""The errors: base classes, messages, values ([0.16])."""

import unittest

from heardlate import errors

FORMS = (
    "InvalidArcs", "InvalidPlan", "InvalidDurations", "InvalidTimes", "InvalidRun", "InvalidPolicy", "InvalidTable",
    "InvalidTask", "InvalidOperation", "InvalidEdit", "ParseError", "InvalidCommand",
)
KEPT = (
    ("InvalidNumber", "value", IndexError),
    ("UnknownName", "name", KeyError),
    ("TooMany", "limit", OverflowError),
    ("Refuted", "paper", ArithmeticError),
    ("Driven", "paper", RuntimeError),
    ("NothingToUndo", "many", LookupError),
)


class Errors(unittest.TestCase):
    def test_plan_error_is_a_value_error_with_a_message(self):
        self.assertEqual(errors.PlanError.__bases__, (ValueError,))
        self.assertIsInstance(errors.PlanError("message"), ValueError)

    def test_errors_with_a_message_are_derived_directly_from_plan_error(self):
        for name in FORMS:
            with self.subTest(name):
                error = getattr(errors, name)
                self.assertEqual(error.__bases__, (errors.PlanError,))
                self.assertIsInstance(error("message"), errors.PlanError)

    def test_errors_with_a_value_are_derived_directly_from_their_base(self):
        for name, _, base in KEPT:
            with self.subTest(name):
                self.assertEqual(getattr(errors, name).__bases__, (base,))

    def test_errors_are_not_derived_from_one_another(self):
        names = FORMS + tuple(name for name, _, _ in KEPT)
        for name in names:
            for other in names:
                with self.subTest(name, other=other):
                    self.assertEqual(issubclass(getattr(errors, name), getattr(errors, other)), name == other)

    def test_errors_with_a_value_are_no_plan_errors(self):
        for name, _, _ in KEPT:
            with self.subTest(name):
                self.assertFalse(issubclass(getattr(errors, name), errors.PlanError))

    def test_values_are_kept(self):
        for name, attribute, _ in KEPT:
            for value in (0, None, True, "", "a", (), ["a"], {"a": [1]}, 10 ** 40 - 1):
                with self.subTest(name, value=value):
                    error = getattr(errors, name)(value)
                    self.assertEqual(getattr(error, attribute), value)
                    self.assertIs(type(getattr(error, attribute)), type(value))

    def test_errors_take_exactly_one_value(self):
        for name, _, _ in KEPT:
            with self.subTest(name):
                self.assertRaises(TypeError, getattr(errors, name))
                self.assertRaises(TypeError, getattr(errors, name), 1, 2)

    def test_each_error_is_defined_in_its_module(self):
        for name in FORMS + ("PlanError",) + tuple(name for name, _, _ in KEPT):
            with self.subTest(name):
                self.assertEqual(getattr(errors, name).__module__, "heardlate.errors")


if __name__ == "__main__":
    unittest.main()
