import unittest

from slitview import errors

NAMES = (
    "NoText", "NoWidth", "NoView", "NoWindow", "Never", "Full", "Nothing", "Unlike", "NoPlace", "NoLetters", "BadText",
)


class Errors(unittest.TestCase):
    def test_slit_error_is_a_value_error(self):
        self.assertTrue(issubclass(errors.SlitError, ValueError))
        self.assertIsNot(errors.SlitError, ValueError)

    def test_each_is_under_slit_error(self):
        self.assertEqual(len(NAMES), 11)
        for name in NAMES:
            with self.subTest(name):
                one = getattr(errors, name)
                self.assertTrue(issubclass(one, errors.SlitError))
                self.assertIsNot(one, errors.SlitError)
                self.assertEqual(one.__name__, name)

    def test_none_is_under_another(self):
        for name in NAMES:
            for other in NAMES:
                if name != other:
                    with self.subTest(name=name, other=other):
                        self.assertFalse(issubclass(getattr(errors, name), getattr(errors, other)))

    def test_each_can_be_raised_and_taken(self):
        for name in NAMES:
            with self.subTest(name), self.assertRaises(errors.SlitError):
                raise getattr(errors, name)("words")


if __name__ == "__main__":
    unittest.main()
