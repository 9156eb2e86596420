import unittest

from lots import errors
from lots.errors import HandLeft, LotsError, NoBound, NoneKept, NoNumber, NoProgram, NoText, TooMany

REFUSALS = (NoNumber, NoText, NoProgram, NoBound, TooMany, HandLeft, NoneKept)


class ErrorsTest(unittest.TestCase):
    def test_any_refusal_stands_under_value_error(self):
        self.assertTrue(issubclass(LotsError, ValueError))
        self.assertIsNot(LotsError, ValueError)

    def test_each_refusal_bears_its_name(self):
        for name in ("NoNumber", "NoText", "NoProgram", "NoBound", "TooMany", "HandLeft", "NoneKept"):
            self.assertEqual(getattr(errors, name).__name__, name)

    def test_each_refusal_stands_under_lots_error(self):
        for refusal in REFUSALS:
            self.assertTrue(issubclass(refusal, LotsError), refusal)
            self.assertIsNot(refusal, LotsError)

    def test_no_refusal_stands_under_another(self):
        for one in REFUSALS:
            for other in REFUSALS:
                if one is not other:
                    self.assertFalse(issubclass(one, other), (one, other))

    def test_each_is_made_of_one_text(self):
        for refusal in (LotsError,) + REFUSALS:
            error = refusal("some words")
            self.assertEqual(str(error), "some words")
            self.assertEqual(error.args, ("some words",))

    def test_each_is_taken_by_its_own_name_and_by_those_above(self):
        for refusal in REFUSALS:
            for taken in (refusal, LotsError, ValueError):
                with self.assertRaises(taken):
                    raise refusal("some words")


if __name__ == "__main__":
    unittest.main()
