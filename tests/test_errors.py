"""[3] the refusals' classes and their fields."""

import unittest

from joinedfolk import errors
from joinedfolk.errors import BadJournal, NoOne, RoofError, Taken

PLAIN = ("BadName", "NoHouse", "BadRule", "BadTime", "Nothing")
FIELDS = (("NoOne", "who"), ("Taken", "taken"), ("BadJournal", "row"))
REFUSALS = PLAIN + tuple([word for word, field in FIELDS])


class ErrorsTest(unittest.TestCase):
    def test_roof_error_is_a_value_error(self):
        self.assertEqual(RoofError.__bases__, (ValueError,))

    def test_each_is_a_roof_error_and_none_of_the_others(self):
        for word in REFUSALS:
            made = getattr(errors, word)
            self.assertTrue(issubclass(made, RoofError), word)
            self.assertTrue(issubclass(made, ValueError), word)
            for other in REFUSALS:
                self.assertEqual(issubclass(made, getattr(errors, other)), word == other, (word, other))

    def test_fields_are_set_when_they_are_made(self):
        for word, field in FIELDS:
            for thing in (5, None, "ann", ("one", "ann", "oak"), [1]):
                self.assertEqual(getattr(getattr(errors, word)(thing), field), thing)

    def test_plain_ones_are_made_with_words(self):
        for word in PLAIN:
            self.assertEqual(str(getattr(errors, word)("why")), "why")

    def test_they_can_be_raised_and_taken(self):
        for made in (NoOne, Taken, BadJournal):
            with self.assertRaises(RoofError):
                raise made(3)


if __name__ == "__main__":
    unittest.main()
