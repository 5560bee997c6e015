import unittest

from allasked import errors

OTHERS = ("NoFrame", "NoWeb", "NoGrowth", "NoTurn", "NoTie", "NoTruth", "NoBack", "NoText", "NoRow")


class Errors(unittest.TestCase):
    def test_ask_error_is_a_value_error(self):
        self.assertEqual(errors.AskError.__bases__, (ValueError,))

    def test_each_other_is_an_ask_error_and_none_is_under_another(self):
        for name in OTHERS:
            kind = getattr(errors, name)
            self.assertEqual(kind.__name__, name)
            self.assertTrue(issubclass(kind, errors.AskError))
            self.assertIsNot(kind, errors.AskError)
            for other in OTHERS:
                if other != name:
                    self.assertFalse(issubclass(kind, getattr(errors, other)), (name, other))

    def test_they_can_be_raised_and_caught(self):
        for name in OTHERS:
            kind = getattr(errors, name)
            with self.assertRaises(kind):
                raise kind("why")
            with self.assertRaises(errors.AskError):
                raise kind("why")
            with self.assertRaises(ValueError):
                raise kind("why")


if __name__ == "__main__":
    unittest.main()
