import unittest

from blockturn import errors

NAMES = ("NoBoard", "NoRule", "NotBack", "TooLong", "TooMany", "BadNote")


class ErrorClasses(unittest.TestCase):
    def test_the_common_class_stands_under_value_error(self):
        self.assertTrue(issubclass(errors.BlockError, ValueError))

    def test_each_stands_under_the_common_class(self):
        for name in NAMES:
            with self.subTest(name):
                self.assertTrue(issubclass(getattr(errors, name), errors.BlockError))
                self.assertTrue(issubclass(getattr(errors, name), ValueError))
                self.assertIsNot(getattr(errors, name), errors.BlockError)

    def test_none_stands_under_another(self):
        for name in NAMES:
            for other in NAMES:
                if name != other:
                    with self.subTest(name, other=other):
                        self.assertFalse(issubclass(getattr(errors, name), getattr(errors, other)))

    def test_each_can_be_raised_with_words(self):
        for name in NAMES:
            with self.subTest(name), self.assertRaises(errors.BlockError):
                raise getattr(errors, name)("words")
