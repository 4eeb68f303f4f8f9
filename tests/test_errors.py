import unittest

from neverbelow import errors

NAMES = (
    "NoNumber", "NoCurve", "TooGreat", "NoStretch", "NoNear", "NoPieces", "NoText", "NoRow", "NoName",
)


class ErrorsTest(unittest.TestCase):
    def test_below_error_stands_under_value_error(self):
        self.assertEqual(errors.BelowError.__bases__, (ValueError,))

    def test_each_stands_under_below_error_alone(self):
        for name in NAMES:
            with self.subTest(name):
                self.assertEqual(getattr(errors, name).__bases__, (errors.BelowError,))

    def test_none_stands_under_another_one(self):
        for name in NAMES:
            for other in NAMES:
                if name != other:
                    with self.subTest(name=name, other=other):
                        self.assertFalse(issubclass(getattr(errors, name), getattr(errors, other)))

    def test_each_is_taken_as_any_refusal(self):
        for name in NAMES:
            with self.subTest(name):
                with self.assertRaises(errors.BelowError):
                    raise getattr(errors, name)("words")


if __name__ == "__main__":
    unittest.main()
