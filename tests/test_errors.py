"""The refusals of yesorno/errors.py."""

import unittest

from yesorno import errors

REFUSALS = ("BadName", "BadTerm", "BadPart", "TooMany", "NoProblem", "NotJoined",
            "TooLong", "BadPaper", "HasChoice", "NoChoice")


class Errors(unittest.TestCase):
    def test_all_refusals_are_choice_errors_and_value_errors(self):
        self.assertTrue(issubclass(errors.ChoiceError, ValueError))
        for name in REFUSALS:
            refusal = getattr(errors, name)
            self.assertTrue(issubclass(refusal, errors.ChoiceError), name)
            self.assertTrue(issubclass(refusal, ValueError), name)
            self.assertIsNot(refusal, errors.ChoiceError)

    def test_no_refusal_stands_under_another(self):
        for name in REFUSALS:
            for other in REFUSALS:
                if name != other:
                    under = issubclass(getattr(errors, name), getattr(errors, other))
                    self.assertFalse(under, (name, other))

    def test_no_refusal_is_another_error_that_is_taken_by_name(self):
        for name in REFUSALS:
            for other in (LookupError, ArithmeticError, RuntimeError, TypeError, UnicodeError):
                self.assertFalse(issubclass(getattr(errors, name), other), name)

    def test_each_can_be_raised_and_taken(self):
        for name in REFUSALS:
            with self.assertRaises(errors.ChoiceError) as taken:
                raise getattr(errors, name)("words")
            self.assertEqual(type(taken.exception).__name__, name)


if __name__ == "__main__":
    unittest.main()
