"""The refusal classes, as the interface lists them."""

import unittest

from needledeck import errors

NINE = ("NoHoles", "NoWord", "NoCount", "NoValue", "NoName", "NoSide", "NoBack", "NoText", "NoLine")


class TestErrors(unittest.TestCase):
    def test_needle_error_stands_under_value_error(self):
        self.assertTrue(issubclass(errors.NeedleError, ValueError))
        self.assertIsNot(errors.NeedleError, ValueError)

    def test_each_of_the_nine_stands_under_needle_error(self):
        for name in NINE:
            with self.subTest(name=name):
                self.assertTrue(issubclass(getattr(errors, name), errors.NeedleError))
                self.assertIsNot(getattr(errors, name), errors.NeedleError)

    def test_none_of_the_nine_stands_under_another(self):
        for one in NINE:
            for other in NINE:
                if one != other:
                    with self.subTest(one=one, other=other):
                        self.assertFalse(issubclass(getattr(errors, one), getattr(errors, other)))

    def test_each_is_raised_and_taken_as_needle_error(self):
        for name in NINE:
            with self.subTest(name=name):
                with self.assertRaises(errors.NeedleError):
                    raise getattr(errors, name)("words")


if __name__ == "__main__":
    unittest.main()
