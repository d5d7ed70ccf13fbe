"""The refusals: which classes there are, and under which they stand."""

import unittest

from tonguenest import errors

KINDS = ("NoPlace", "TooMany", "Nothing", "NoDoor", "NoWay", "NoTongue", "NoText", "NoRow")


class ErrorsTest(unittest.TestCase):
    def test_any_refusal_is_a_value_error(self):
        self.assertEqual(errors.NestError.__bases__, (ValueError,))

    def test_each_kind_stands_under_nest_error_alone(self):
        for name in KINDS:
            with self.subTest(name):
                self.assertEqual(getattr(errors, name).__bases__, (errors.NestError,))

    def test_each_kind_is_a_class_of_its_own(self):
        self.assertEqual(len({getattr(errors, name) for name in KINDS}), len(KINDS))

    def test_each_kind_is_raised_with_and_without_words(self):
        for name in KINDS + ("NestError",):
            kind = getattr(errors, name)
            with self.subTest(name):
                with self.assertRaises(errors.NestError):
                    raise kind("why")
                with self.assertRaises(kind):
                    raise kind()


if __name__ == "__main__":
    unittest.main()
