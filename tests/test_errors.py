"""The refusals' classes."""

import unittest

from stretchkeeper import errors

KINDS = ["BadNumber", "BadStretch", "BadKeeper", "BadText", "NoSuch"]


class ErrorsTest(unittest.TestCase):

    def test_any_refusal_is_a_value_error(self):
        self.assertEqual(errors.KeepError.__bases__, (ValueError,))

    def test_each_kind_stands_straight_under_it(self):
        for name in KINDS:
            with self.subTest(name):
                self.assertEqual(getattr(errors, name).__bases__, (errors.KeepError,))

    def test_no_kind_stands_under_another_one(self):
        for name in KINDS:
            for other in KINDS:
                with self.subTest(name, other=other):
                    under = issubclass(getattr(errors, name), getattr(errors, other))
                    self.assertIs(under, name == other)

    def test_each_is_defined_in_its_file_under_its_name(self):
        for name in ["KeepError"] + KINDS:
            with self.subTest(name):
                self.assertEqual(getattr(errors, name).__module__, "stretchkeeper.errors")
                self.assertEqual(getattr(errors, name).__name__, name)

    def test_each_can_be_raised_and_caught_as_any_refusal(self):
        for name in ["KeepError"] + KINDS:
            for caught in [errors.KeepError, ValueError]:
                with self.subTest(name, caught=caught):
                    with self.assertRaises(caught):
                        raise getattr(errors, name)("why")


if __name__ == "__main__":
    unittest.main()
