"""[11] words, names and their texts; [3] what a whole number is."""

import unittest

from joinedfolk.errors import BadName
from joinedfolk.names import is_name, is_whole, is_word, name_text, read_name
from telling import STRANGE, refused

NAMES = (
    ("one", "ann", "oak"), ("group", "ann", "oak"), ("one", "a", "0"), ("group", "0", "z9"),
    ("one", "abcdefgh", "12345678"), ("group", "12345678", "abcdefgh"), ("one", "one", "group"),
)
NO_NAMES = STRANGE + (
    "ann@oak", ["one", "ann", "oak"], ("one", "ann"), ("one", "ann", "oak", "x"), ("two", "ann", "oak"),
    ("One", "ann", "oak"), ("", "ann", "oak"), (None, "ann", "oak"), (["one"], "ann", "oak"), (True, "ann", "oak"),
    ("one", "", "oak"), ("one", "Ann", "oak"), ("one", "ninesigns", "oak"), ("one", None, "oak"), ("one", 5, "oak"),
    ("one", ["ann"], "oak"), ("one", ("a", "b"), "oak"), ("one", "ann", ""), ("one", "ann", "ninesigns"),
    ("one", "ann", "o@k"), ("one", "ann", None), ("one", "ann", True), ("one", "ann", {}), ("one", "#ann", "oak"),
)
NO_TEXTS = STRANGE + (
    "@", "#", "#@", "ann", "ann@", "@oak", "#ann", "#ann@", "#@oak", "##ann@oak", "ann#@oak", "ann@#oak", "#ann@#oak",
    "ann@@oak", "ann@oak@", "@ann@oak", "ann@oak@elm", "ann @oak", "ann@ oak", " ann@oak", "ann@oak ", "ann@oak\n",
    "Ann@oak", "ann@Oak", "ninesigns@oak", "ann@ninesigns", "one ann oak", "#ninesigns@oak", "ann_@oak",
    ("one", "ann", "oak"), ["ann@oak"], b"ann@oak",
)


class WordsTest(unittest.TestCase):
    def test_whole_numbers(self):
        for thing in (0, 1, -5, 10 ** 30):
            self.assertIs(is_whole(thing), True)
        for thing in (True, False, None, 1.0, "1", (1,), [1]):
            self.assertIs(is_whole(thing), False)

    def test_length_of_a_word(self):
        for length in range(12):
            self.assertIs(is_word("a" * length), 1 <= length <= 8)
            self.assertIs(is_word("7" * length), 1 <= length <= 8)

    def test_signs_of_a_word(self):
        good = "abcdefghijklmnopqrstuvwxyz0123456789"
        others = ["\u00e9", "\u00df", "\u03b1", "\u00b2", "\u0661", "\uff11", "\uff41", "\u0131"]
        for sign in [chr(code) for code in range(128)] + others:
            self.assertIs(is_word(sign), sign in good, repr(sign))
            self.assertIs(is_word("a" + sign + "b"), sign in good, repr(sign))
            self.assertIs(is_word("ab" + sign), sign in good, repr(sign))

    def test_things_that_are_no_words(self):
        for thing in STRANGE:
            self.assertIs(is_word(thing), False, thing)


class NamesTest(unittest.TestCase):
    def test_is_name(self):
        for name in NAMES:
            self.assertIs(is_name(name), True, name)
        for thing in NO_NAMES:
            self.assertIs(is_name(thing), False, thing)

    def test_text_of_a_name(self):
        self.assertEqual(name_text(("one", "ann", "oak")), "ann@oak")
        self.assertEqual(name_text(("group", "crew", "elm")), "#crew@elm")
        self.assertEqual(name_text(("group", "12345678", "abcdefgh")), "#12345678@abcdefgh")

    def test_reading_a_name(self):
        self.assertEqual(read_name("ann@oak"), ("one", "ann", "oak"))
        self.assertEqual(read_name("#crew@elm"), ("group", "crew", "elm"))
        self.assertEqual(read_name("a@0"), ("one", "a", "0"))

    def test_writing_and_reading_undo_one_another(self):
        for name in NAMES:
            self.assertEqual(read_name(name_text(name)), name)
        for text in ("ann@oak", "#ann@oak", "a@b", "#1@2", "abcdefgh@abcdefgh"):
            self.assertEqual(name_text(read_name(text)), text)

    def test_no_name_has_no_text(self):
        for thing in NO_NAMES:
            refused(self, BadName, name_text, thing)

    def test_no_text_of_a_name_is_not_read(self):
        for thing in NO_TEXTS:
            refused(self, BadName, read_name, thing)


if __name__ == "__main__":
    unittest.main()
