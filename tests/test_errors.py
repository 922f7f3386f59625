import unittest

from leanfigures import errors

UNDER = ("NoNumber", "NoRow", "NoText", "NoDeeds", "NoCost")


class Errors(unittest.TestCase):
    def test_lean_error_stands_straight_under_value_error(self):
        self.assertEqual(errors.LeanError.__bases__, (ValueError,))

    def test_each_stands_straight_under_lean_error(self):
        for name in UNDER:
            with self.subTest(name):
                self.assertEqual(getattr(errors, name).__bases__, (errors.LeanError,))

    def test_each_is_a_lean_error_and_a_value_error(self):
        for name in UNDER:
            with self.subTest(name):
                self.assertTrue(issubclass(getattr(errors, name), errors.LeanError))
                self.assertTrue(issubclass(getattr(errors, name), ValueError))

    def test_none_is_under_another_one(self):
        for name in UNDER:
            for other in UNDER:
                if name != other:
                    with self.subTest(name + " " + other):
                        self.assertFalse(issubclass(getattr(errors, name), getattr(errors, other)))

    def test_each_is_defined_in_its_file_under_its_name(self):
        for name in UNDER + ("LeanError",):
            with self.subTest(name):
                self.assertEqual(getattr(errors, name).__module__, "leanfigures.errors")
                self.assertEqual(getattr(errors, name).__name__, name)

    def test_each_can_be_raised_and_caught(self):
        for name in UNDER:
            with self.subTest(name):
                with self.assertRaises(errors.LeanError):
                    raise getattr(errors, name)("words")


if __name__ == "__main__":
    unittest.main()
