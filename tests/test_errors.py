import unittest

from lookback import errors
from lookback.errors import Barred, LookError, Never, NoAsk, NoChange, NoLine, NoReason, NoSources, NoText, Two


class Errors(unittest.TestCase):
    def test_made_without_anything(self):
        for error in (NoSources, NoReason, NoChange, NoAsk, Never, NoLine):
            self.assertIsInstance(error(), LookError)
            with self.assertRaises(error):
                raise error()

    def test_values(self):
        one, other = (("t", ("a",), None, ("a",)),), (("t", ("b",), None, ("b",)),)
        two = Two(one, other)
        self.assertEqual((two.one, two.other), (one, other))
        barred = Barred("word", one)
        self.assertEqual((barred.rule, barred.way), ("word", one))
        self.assertIsNone(Barred("word", None).way)
        self.assertEqual(NoText(7).row, 7)

    def test_each_straight_under_one(self):
        self.assertEqual(LookError.__bases__, (ValueError,))
        classes = [thing for thing in vars(errors).values() if isinstance(thing, type) and thing is not LookError]
        self.assertEqual(len(classes), 9)
        for error in classes:
            self.assertEqual(error.__bases__, (LookError,))


if __name__ == "__main__":
    unittest.main()
