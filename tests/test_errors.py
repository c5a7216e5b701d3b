import unittest

from tillcoins import errors

NAMES = ["BadSystem", "BadSum", "BadWay", "BadNumber", "NotOrderly", "BadText"]


class ErrorsTest(unittest.TestCase):
    def test_till_error_is_a_value_error(self):
        self.assertTrue(issubclass(errors.TillError, ValueError))

    def test_each_refusal_stands_straight_under_till_error(self):
        for name in NAMES:
            with self.subTest(name=name):
                self.assertEqual(getattr(errors, name).__bases__, (errors.TillError,))

    def test_no_refusal_stands_under_another(self):
        for name in NAMES:
            for other in NAMES:
                with self.subTest(name=name, other=other):
                    below = issubclass(getattr(errors, name), getattr(errors, other))
                    self.assertEqual(below, name == other)

    def test_each_refusal_can_be_raised_with_words(self):
        for name in NAMES:
            with self.subTest(name=name):
                with self.assertRaises(errors.TillError):
                    raise getattr(errors, name)("words")


if __name__ == "__main__":
    unittest.main()
