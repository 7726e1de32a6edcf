"""The refusals, as the interface names them."""

import unittest

from coverfill.errors import CoverError, NoCell, NoLayer, NoName, NoPlace, NoRatio, NoRow, NoText

REFUSALS = (NoRatio, NoLayer, NoPlace, NoText, NoRow, NoName, NoCell)


class Refusals(unittest.TestCase):
    def test_cover_error_is_a_value_error(self):
        self.assertTrue(issubclass(CoverError, ValueError))

    def test_each_refusal_is_a_cover_error(self):
        for refusal in REFUSALS:
            self.assertTrue(issubclass(refusal, CoverError), refusal)
            self.assertTrue(issubclass(refusal, ValueError), refusal)
            self.assertIsNot(refusal, CoverError)

    def test_none_stands_under_another(self):
        for one in REFUSALS:
            for other in REFUSALS:
                self.assertEqual(issubclass(one, other), REFUSALS.index(one) == REFUSALS.index(other), (one, other))

    def test_names_are_as_they_stand(self):
        names = [refusal.__name__ for refusal in REFUSALS]
        self.assertEqual(names, ["NoRatio", "NoLayer", "NoPlace", "NoText", "NoRow", "NoName", "NoCell"])

    def test_each_is_raised_and_taken(self):
        for refusal in REFUSALS:
            with self.assertRaises(CoverError):
                raise refusal("words of its own")


if __name__ == "__main__":
    unittest.main()
