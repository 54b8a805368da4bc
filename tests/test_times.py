"""[51] journals, what held at any time, what changed between two, since when, and by which deed."""

import random
import unittest

from joinedfolk.chains import is_in
from joinedfolk.errors import BadJournal, BadTime, NoOne, Taken
from joinedfolk.roofs import Roof
from joinedfolk.times import as_of, blamed, changed, journal, played, since
from telling import NO_ROWS, STRANGE, chance_roof, crowd, do, pairs_by_hand, refused, there, told, two_houses

# One row of every deed, each of which can be done where it stands.
ROWS = [
    ("found", "oak"), ("found", "elm"), ("come", "one", "ann", "oak"), ("come", "group", "g", "elm"),
    ("put_in", 100, 200), ("take_out", 100, 200), ("call", 100, "bea"), ("move", 100, "elm", None),
    ("move", 100, "oak", "cat"), ("trust", "oak", "elm"), ("mistrust", "oak", "elm"), ("merge", "oak", "elm"),
    ("go", 100),
]

# Two houses, ann 100 of oak, crew 200 and all 201 of elm.
START = [
    ("found", "oak"), ("found", "elm"), ("come", "one", "ann", "oak"), ("come", "group", "crew", "elm"),
    ("come", "group", "all", "elm"),
]


def started(*rows):
    """The roof of START with more deeds."""
    return played(START + list(rows))


class JournalTest(unittest.TestCase):
    def test_a_new_roof(self):
        self.assertEqual(journal(Roof()), [])
        self.assertEqual(played([]), Roof())
        self.assertEqual(played([]).time(), 0)

    def test_deeds_of_every_kind(self):
        roof = Roof()
        for name, *things in ROWS:
            do(roof, name, things)
        self.assertEqual(journal(roof), ROWS)
        self.assertTrue(all([type(row) is tuple for row in journal(roof)]))
        again = played(ROWS)
        self.assertEqual(again, roof)
        self.assertEqual(told(again), told(roof))
        self.assertEqual(journal(again), ROWS)

    def test_move_with_its_word_or_none(self):
        roof = started()
        roof.move(100, "elm")
        roof.move(100, "oak", word="ann")
        roof.move(100, "oak", word=None)
        self.assertEqual(journal(roof)[5:], [
            ("move", 100, "elm", None), ("move", 100, "oak", "ann"), ("move", 100, "oak", None)])

    def test_deeds_that_change_nothing(self):
        rows = [("take_out", 100, 200), ("mistrust", "oak", "elm"), ("put_in", 100, 200), ("put_in", 100, 200)]
        self.assertEqual(journal(started(*rows)), START + rows)

    def test_what_was_taken_back_and_refused_does_not_stand(self):
        roof = started()
        roof.put_in(100, 200)
        roof.put_in(100, 201)
        roof.take_back()
        refused(self, Taken, roof.found, "oak")
        refused(self, NoOne, roof.go, 99)
        self.assertEqual(journal(roof), START + [("put_in", 100, 200)])
        roof.take_back()
        roof.trust("oak", "elm")
        self.assertEqual(journal(roof), START + [("trust", "oak", "elm")])
        self.assertEqual(played(journal(roof)), roof)

    def test_numbers_that_were_taken_back(self):
        roof = started()
        roof.come("one", "bob", "oak")
        roof.take_back()
        self.assertEqual(roof.come("group", "cat", "oak"), 101)
        self.assertEqual(played(journal(roof)), roof)
        self.assertEqual(as_of(roof, 6).name(101), ("group", "cat", "oak"))

    def test_the_list_is_a_new_one(self):
        roof = started()
        rows = journal(roof)
        rows.append(("go", 100))
        rows[0] = None
        self.assertEqual(journal(roof), START)
        self.assertEqual(roof.time(), 5)
        roof.take_back()
        self.assertEqual(journal(roof), START[:4])

    def test_rows_handed_in_are_not_changed_or_kept(self):
        rows = list(START)
        roof = played(rows)
        self.assertEqual(rows, START)
        roof.go(100)
        self.assertEqual(rows, START)
        rows.clear()
        self.assertEqual(journal(roof), START + [("go", 100)])

    def test_played_of_no_list(self):
        for thing in (None, True, 0, 5, "", "found oak", (), tuple(START), {}, ("found", "oak")):
            self.assertIsNone(refused(self, BadJournal, played, thing, field="row"))

    def test_played_of_rows_that_are_no_deeds(self):
        for thing in NO_ROWS:
            self.assertEqual(refused(self, BadJournal, played, [thing], field="row"), 0, thing)
            self.assertEqual(refused(self, BadJournal, played, START + [thing], field="row"), 5, thing)
            self.assertEqual(refused(self, BadJournal, played, START + [("go", 100), thing, None], field="row"), 6)

    def test_played_of_deeds_that_are_refused(self):
        rows = (
            ("found", "oak"), ("come", "one", "ann", "oak"), ("come", "one", "bob", "ash"), ("go", 101), ("go", 0),
            ("put_in", 101, 200), ("put_in", 200, 100), ("take_out", 101, 200), ("take_out", 200, 100),
            ("call", 100, "ann"), ("call", 200, "all"), ("call", 101, "bob"), ("move", 101, "elm", None),
            ("move", 100, "ash", None), ("move", 200, "elm", "all"), ("merge", "oak", "oak"), ("merge", "ash", "oak"),
            ("merge", "oak", "ash"), ("trust", "oak", "oak"), ("trust", "oak", "ash"), ("mistrust", "ash", "oak"),
        )
        for row in rows:
            self.assertEqual(refused(self, BadJournal, played, START + [row], field="row"), 5, row)
            self.assertEqual(refused(self, BadJournal, played, START + [row, None, row], field="row"), 5, row)
        self.assertEqual(refused(self, BadJournal, played, START[2:], field="row"), 0)

    def test_journals_by_chance(self):
        for seed in range(20):
            roof = chance_roof(random.Random(seed), 80)
            again = played(journal(roof))
            self.assertEqual(told(again), told(roof))
            self.assertTrue(again == roof)


class AsOfTest(unittest.TestCase):
    def test_each_time(self):
        roof, times = Roof(), []
        for name, *things in ROWS:
            times.append(told(roof))
            do(roof, name, things)
        times.append(told(roof))
        for time, before in enumerate(times):
            past = as_of(roof, time)
            self.assertIsInstance(past, Roof)
            self.assertEqual(told(past), before)
            self.assertEqual(past.time(), time)
            self.assertEqual(journal(past), ROWS[:time])
        self.assertEqual(as_of(roof, 0), Roof())
        self.assertEqual(as_of(roof, len(ROWS)), roof)
        self.assertEqual(told(roof), times[-1])

    def test_a_roof_of_its_own(self):
        roof = two_houses()
        before, rows = told(roof), journal(roof)
        past = as_of(roof, roof.time())
        past.go(100)
        past.merge("elm", "oak")
        past.found("elm")
        self.assertEqual((told(roof), journal(roof)), (before, rows))
        self.assertEqual(past.time(), roof.time() + 3)
        past = as_of(roof, 9)
        roof.go(102)
        self.assertEqual(past.members(102), [100, 200])
        past.take_back()
        self.assertEqual(past.time(), 8)
        self.assertEqual(journal(past), rows[:8])
        self.assertEqual(roof.time(), len(rows) + 1)

    def test_numbers_are_given_as_then(self):
        roof = started(("come", "one", "bob", "oak"))
        past = as_of(roof, 5)
        self.assertEqual(past.come("one", "cat", "oak"), 101)
        self.assertEqual(roof.name(101), ("one", "bob", "oak"))

    def test_no_time(self):
        roof = started()
        for thing in (-1, 6, 100, 2 ** 70, True, False, None, 1.0, "1", "", (), (1,), [], [1], {}):
            refused(self, BadTime, as_of, roof, thing)
        refused(self, BadTime, as_of, Roof(), 1)
        refused(self, BadTime, as_of, Roof(), False)
        roof.take_back()
        refused(self, BadTime, as_of, roof, 5)
        self.assertEqual(as_of(roof, 4), roof)


class ChangedTest(unittest.TestCase):
    def one_deed(self, rows, row, expected):
        """Test what a deed behind others changes."""
        roof = started(*rows, row)
        self.assertEqual(changed(roof, roof.time() - 1, roof.time()), expected)
        self.assertEqual(changed(roof, roof.time(), roof.time()), [])

    def test_deeds_that_let_one_in(self):
        way = [("put_in", 100, 200), ("put_in", 200, 201)]
        trust = [("trust", "elm", "oak")]
        both = [(100, 200, "in"), (100, 201, "in")]
        self.one_deed(trust, way[0], [(100, 200, "in")])
        self.one_deed(trust + way[1:], way[0], both)
        self.one_deed(trust + way[:1], way[1], both[1:])
        self.one_deed(way, trust[0], both)
        self.one_deed(way, ("move", 100, "elm", "bea"), both)
        self.one_deed(way, ("merge", "oak", "elm"), both)
        self.one_deed(way, ("merge", "elm", "oak"), both)
        self.one_deed([], way[0], [])

    def test_deeds_that_let_one_out(self):
        way = [("put_in", 100, 200), ("put_in", 200, 201), ("trust", "elm", "oak")]
        both = [(100, 200, "out"), (100, 201, "out")]
        self.one_deed(way, ("take_out", 100, 200), both)
        self.one_deed(way, ("take_out", 200, 201), both[1:])
        self.one_deed(way, ("go", 100), both)
        self.one_deed(way, ("go", 200), both)
        self.one_deed(way, ("go", 201), both[1:])
        self.one_deed(way, ("mistrust", "elm", "oak"), both)
        self.one_deed(way + [("found", "ash")], ("move", 100, "ash", None), both)
        self.one_deed(way + [("found", "ash")], ("move", 200, "ash", None), both)
        self.one_deed(way + [("found", "ash")], ("move", 201, "ash", None), both[1:])

    def test_deeds_that_change_no_membership(self):
        way = [("put_in", 100, 200), ("put_in", 200, 201), ("trust", "elm", "oak")]
        for row in (("call", 100, "bea"), ("call", 200, "bea"), ("come", "one", "bob", "oak"), ("found", "ash"),
                    ("come", "group", "bob", "oak"), ("move", 100, "elm", None), ("merge", "oak", "elm"),
                    ("trust", "oak", "elm"), ("put_in", 100, 200), ("take_out", 100, 201), ("mistrust", "oak", "elm")):
            self.one_deed(way, row, [])

    def test_people_alone(self):
        # Groups that come to be in groups are not told.
        self.one_deed([], ("put_in", 200, 201), [])

    def test_one_of_both_was_not_there(self):
        roof = started(("trust", "elm", "oak"), ("put_in", 100, 200), ("go", 100), ("come", "one", "ann", "oak"),
                       ("put_in", 101, 201))
        for early in range(7):
            self.assertEqual(changed(roof, early, 7), [(100, 200, "in")])
            self.assertEqual(changed(roof, early, 10), [(101, 201, "in")])
        self.assertEqual(changed(roof, 7, 10), [(100, 200, "out"), (101, 201, "in")])
        self.assertEqual(changed(roof, 7, 9), [(100, 200, "out")])
        self.assertEqual(changed(roof, 0, 0), [])

    def test_made_broken_and_made_again(self):
        roof = started(("trust", "elm", "oak"), ("put_in", 100, 200), ("take_out", 100, 200), ("put_in", 100, 200))
        self.assertEqual(changed(roof, 7, 9), [])
        self.assertEqual(changed(roof, 6, 8), [])
        self.assertEqual(changed(roof, 7, 8), [(100, 200, "out")])
        self.assertEqual(changed(roof, 8, 9), [(100, 200, "in")])

    def test_no_time(self):
        roof = started()
        for thing in (-1, 6, True, False, None, 1.0, "1", (), [], [1], {}):
            refused(self, BadTime, changed, roof, thing, 5)
            refused(self, BadTime, changed, roof, 0, thing)
            refused(self, BadTime, changed, roof, thing, thing)
        refused(self, BadTime, changed, roof, 5, 4)
        refused(self, BadTime, changed, roof, 1, 0)
        self.assertEqual(changed(roof, 0, 5), [])


class SinceTest(unittest.TestCase):
    def tell(self, roof, time, row, who=100, group=200):
        self.assertEqual(since(roof, who, group), time)
        self.assertEqual(blamed(roof, who, group), row)
        if time is not None:
            self.assertIs(type(since(roof, who, group)), int)
            self.assertEqual(journal(roof)[time - 1], row)

    def test_not_in(self):
        self.tell(started(), None, None)
        self.tell(started(("put_in", 100, 200)), None, None)
        self.tell(started(("put_in", 200, 200)), None, None, who=200)
        self.tell(started(("trust", "elm", "oak"), ("put_in", 100, 200), ("take_out", 100, 200)), None, None)

    def test_each_deed_that_lets_one_in(self):
        put, trust = ("put_in", 100, 200), ("trust", "elm", "oak")
        idle = ("call", 100, "bea")
        self.tell(started(trust, put), 7, put)
        self.tell(started(trust, put, idle, idle[:2] + ("cat",)), 7, put)
        self.tell(started(put, idle, trust), 8, trust)
        for row in (("move", 100, "elm", None), ("move", 100, "elm", "bea"), ("merge", "oak", "elm"),
                    ("merge", "elm", "oak"), ("move", 200, "oak", None)):
            self.tell(started(put, row), 7, row)
            self.tell(started(put, row, ("call", 200, "gang")), 7, row)

    def test_a_merge_by_which_trust_is_handed_on(self):
        rows = [("found", "ash"), ("put_in", 100, 200), ("trust", "elm", "ash"), ("merge", "oak", "ash")]
        self.tell(started(*rows), 9, rows[3])
        rows = [("found", "ash"), ("put_in", 100, 200), ("trust", "ash", "oak"), ("merge", "ash", "elm")]
        self.tell(started(*rows), 9, rows[3])

    def test_the_last_step_of_a_chain(self):
        rows = [("trust", "elm", "oak"), ("put_in", 200, 201), ("put_in", 100, 200)]
        self.tell(started(*rows), 8, rows[2], group=201)
        self.tell(started(rows[2], rows[1], rows[0]), 8, rows[0], group=201)
        self.tell(started(rows[0], rows[2], rows[1]), 8, rows[1], group=201)
        self.tell(started(rows[0], rows[2], rows[1]), 7, rows[2])
        self.tell(started(rows[0], rows[2], rows[1]), 8, rows[1], who=200, group=201)

    def test_another_chain_holds_what_the_first_one_made(self):
        put = ("put_in", 100, 201)
        rows = [("trust", "elm", "oak"), put, ("put_in", 200, 201), ("put_in", 100, 200), ("take_out", 100, 201)]
        roof = started(*rows)
        self.assertEqual(changed(roof, 9, 10), [])
        self.tell(roof, 7, put, group=201)

    def test_made_broken_and_made_again(self):
        put, out, trust = ("put_in", 100, 200), ("take_out", 100, 200), ("trust", "elm", "oak")
        self.tell(started(trust, put, out, put), 9, put)
        self.tell(started(trust, put, put, put), 7, put)
        self.tell(started(trust, put, ("mistrust", "elm", "oak"), trust), 9, trust)
        self.tell(started(put, trust, trust), 7, trust)
        move = ("move", 100, "elm", None)
        self.tell(started(put, move, ("move", 100, "oak", None), move), 9, move)

    def test_taken_back_deeds_are_not_blamed(self):
        roof = started(("trust", "elm", "oak"), ("put_in", 100, 200), ("take_out", 100, 200))
        roof.take_back()
        self.tell(roof, 7, ("put_in", 100, 200))

    def test_no_one(self):
        roof = two_houses()
        before = told(roof)
        for ask in (since, blamed):
            for thing in STRANGE + (99, 103, "100"):
                self.assertEqual(refused(self, NoOne, ask, roof, thing, 102, field="who"), thing)
                self.assertEqual(refused(self, NoOne, ask, roof, thing, None, field="who"), thing)
                self.assertEqual(refused(self, NoOne, ask, roof, 100, thing, field="who"), thing)
            self.assertEqual(refused(self, NoOne, ask, roof, 100, 101, field="who"), 101)
        self.assertEqual(told(roof), before)
        roof.go(100)
        self.assertEqual(refused(self, NoOne, since, roof, 100, 102, field="who"), 100)
        self.assertEqual(refused(self, NoOne, blamed, roof, 100, 102, field="who"), 100)


class ByHandTest(unittest.TestCase):
    def test_histories_by_chance(self):
        for seed in range(20):
            chance = random.Random(seed)
            with self.subTest(seed=seed):
                self.compare(chance_roof(chance, 60, crowd(chance)))

    def compare(self, roof):
        before, rows = told(roof), journal(roof)
        pasts = [played(rows[:time]) for time in range(roof.time() + 1)]
        all_pairs = [pairs_by_hand(past) for past in pasts]
        pairs = [[(who, group) for who, group in each if past.name(who)[0] == "one"]
                 for past, each in zip(pasts, all_pairs)]
        for early in range(0, len(pasts), 5):
            for late in range(early, len(pasts), 6):
                came = [(*pair, "in") for pair in pairs[late] if pair not in pairs[early]]
                went = [(*pair, "out") for pair in pairs[early] if pair not in pairs[late]]
                self.assertEqual(changed(roof, early, late), sorted(came + went))
        for who in there(roof):
            for group in there(roof, "group"):
                time = roof.time()
                while (who, group) in all_pairs[time]:
                    time -= 1
                expected = None if time == roof.time() else time + 1
                self.assertEqual(since(roof, who, group), expected)
                self.assertEqual(blamed(roof, who, group), None if expected is None else rows[time])
                self.assertEqual(expected is not None, is_in(roof, who, group))
        self.assertEqual((told(roof), journal(roof)), (before, rows))


if __name__ == "__main__":
    unittest.main()
