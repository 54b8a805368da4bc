"""[51] the text of a journal, and the journal of a text."""

import random
import unittest

from joinedfolk.errors import BadJournal
from joinedfolk.texts import journal_text, read_journal
from joinedfolk.times import journal
from telling import NO_ROWS, chance_roof, refused

ROWS = [
    ("found", "oak"), ("come", "one", "ann", "oak"), ("come", "group", "7", "12"), ("go", 0), ("put_in", 100, 7),
    ("take_out", 7, 10000), ("call", 100, "bea"), ("move", 100, "elm", None), ("move", 100, "elm", "a1"),
    ("merge", "oak", "oak"), ("trust", "oak", "12345678"), ("mistrust", "a", "b"),
]
TEXT = """found oak
come one ann oak
come group 7 12
go 0
put_in 100 7
take_out 7 10000
call 100 bea
move 100 elm -
move 100 elm a1
merge oak oak
trust oak 12345678
mistrust a b"""

NO_LINES = (
    "", " ", "-", "found", "found ", " found oak", "found oak ", "found  oak", "found\toak", "found oak\r", "Found oak",
    "found Oak", "found oak elm", "found -", "found ninesigns", "found o\u00e4k", "take_back", "time", "come one ann",
    "come two ann oak", "come one ann oak -", "come - ann oak", "go", "go -", "go -1", "go +1", "go 01", "go 00", "go 1.0",
    "go 1_0", "go a", "go  1", "go 1 2", "go \u0661", "go \u00b2", "go \uff11", "go 1\u00a0", "go 0x1", "put_in 1",
    "put_in 1 2 3", "put_in 1 -", "put_in 1 02", "put_in - 1", "take_out 1", "take_out a 1", "call 1", "call 1 -",
    "call 1 BEA", "call ann 1", "call 01 bea", "move 1 elm", "move 1 elm None", "move 1 elm --", "move 1 elm - -",
    "move 1 - -", "move 1 elm ", "move - elm -", "merge oak", "merge oak -", "merge oak elm ash", "trust oak ELM",
    "trust oak", "mistrust oak", "mistrust oak, elm", "putin 1 2", "put-in 1 2", "put_in1 2", "found\u2028oak",
)


class TextsTest(unittest.TestCase):
    def test_every_deeds_row(self):
        self.assertEqual(journal_text(ROWS), TEXT)
        self.assertEqual(read_journal(TEXT), ROWS)
        for row, line in zip(ROWS, TEXT.split("\n")):
            self.assertEqual(journal_text([row]), line)
            self.assertEqual(read_journal(line), [row])
            self.assertIs(type(read_journal(line)[0]), tuple)

    def test_kinds_of_what_is_read(self):
        for row, expected in zip(read_journal(TEXT), ROWS):
            self.assertEqual([type(part) for part in row], [type(part) for part in expected])

    def test_no_rows_and_no_signs(self):
        self.assertEqual(journal_text([]), "")
        self.assertEqual(read_journal(""), [])

    def test_nothing_is_asked_of_whether_it_can_be(self):
        rows = [("go", 5), ("go", 5), ("mistrust", "a", "a"), ("found", "a"), ("found", "a")]
        self.assertEqual(read_journal(journal_text(rows)), rows)

    def test_what_is_told_is_new(self):
        rows = list(ROWS)
        journal_text(rows)
        self.assertEqual(rows, ROWS)
        read_journal(TEXT).clear()
        self.assertEqual(read_journal(TEXT), ROWS)

    def test_numbers_of_any_length(self):
        for number in (0, 9, 10, 99, 100, 1000, 10 ** 20, 10 ** 20 - 1, 2 ** 100):
            self.assertEqual(journal_text([("go", number)]), f"go {number}")
            self.assertEqual(read_journal(f"go {number}"), [("go", number)])
        line = "go 1" + "0" * 5000
        self.assertEqual(read_journal(line), [("go", 10 ** 5000)])
        self.assertEqual(journal_text([("go", 10 ** 5000)]), line)

    def test_no_list(self):
        for thing in (None, True, 5, "", "found oak", (), tuple(ROWS), {}, ("found", "oak"), b""):
            self.assertIsNone(refused(self, BadJournal, journal_text, thing, field="row"))

    def test_no_rows_by_their_form(self):
        for thing in NO_ROWS:
            self.assertEqual(refused(self, BadJournal, journal_text, [thing], field="row"), 0, thing)
            self.assertEqual(refused(self, BadJournal, journal_text, ROWS + [thing], field="row"), len(ROWS))
            self.assertEqual(refused(self, BadJournal, journal_text, ROWS[:2] + [thing, None], field="row"), 2)

    def test_no_text(self):
        for thing in (None, True, False, 0, 5, (), [], ["found oak"], ROWS, {}, b"found oak"):
            self.assertIsNone(refused(self, BadJournal, read_journal, thing, field="row"))

    def test_lines_that_write_no_row(self):
        for line in NO_LINES:
            if line:
                self.assertEqual(refused(self, BadJournal, read_journal, line, field="row"), 0, line)
            self.assertEqual(refused(self, BadJournal, read_journal, f"{TEXT}\n{line}", field="row"), len(ROWS), line)
            self.assertEqual(refused(self, BadJournal, read_journal, f"{line}\n{TEXT}", field="row"), 0, line)
            self.assertEqual(refused(self, BadJournal, read_journal, f"found oak\n{line}\n", field="row"), 1, line)

    def test_line_feeds(self):
        self.assertEqual(refused(self, BadJournal, read_journal, "\n", field="row"), 0)
        self.assertEqual(refused(self, BadJournal, read_journal, "found oak\n", field="row"), 1)
        self.assertEqual(refused(self, BadJournal, read_journal, "found oak\n\ngo 1", field="row"), 1)
        self.assertEqual(refused(self, BadJournal, read_journal, "found oak\r\ngo 1", field="row"), 0)
        self.assertEqual(refused(self, BadJournal, read_journal, "found oak\x0bgo 1", field="row"), 0)

    def test_a_sign_more_less_or_another(self):
        """Whatever text is read is written again to the letter; all else is refused."""
        texts = [TEXT[:at] + TEXT[at + 1:] for at in range(len(TEXT))]
        for sign in " \n-0aA_\t":
            texts += [TEXT[:at] + sign + TEXT[at:] for at in range(len(TEXT) + 1)]
            texts += [TEXT[:at] + sign + TEXT[at + 1:] for at in range(len(TEXT))]
        wrong = 0
        for text in texts:
            try:
                rows = read_journal(text)
            except BadJournal as e:
                wrong += 1
                good = "\n".join(text.split("\n")[:e.row])
                self.assertEqual(journal_text(read_journal(good)), good)
                self.assertEqual(refused(self, BadJournal, read_journal, text.split("\n")[e.row] or " ", field="row"), 0)
            else:
                self.assertEqual(journal_text(rows), text)
        self.assertGreater(wrong, len(texts) // 2)
        self.assertLess(wrong, len(texts))

    def test_journals_by_chance(self):
        for seed in range(20):
            rows = journal(chance_roof(random.Random(seed), 60))
            text = journal_text(rows)
            self.assertEqual(read_journal(text), rows)
            self.assertEqual(journal_text(read_journal(text)), text)


if __name__ == "__main__":
    unittest.main()
