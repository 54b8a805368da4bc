"""[1], [2], [3] over the whole program: what moves and merges leave as it was, and what is told twice."""

import random
import unittest

from joinedfolk.chains import all_in, chain, groups_of, is_in, outside, shows_in, shows_out
from joinedfolk.errors import RoofError
from joinedfolk.roofs import Roof
from joinedfolk.rules import may, needless, parted, reason
from joinedfolk.texts import journal_text, read_journal
from joinedfolk.times import as_of, blamed, changed, journal, played, since
from telling import crowd, there, told, two_houses

RULES = [("bar", 101, "read"), ("let", 102, "read"), ("let", 201, "read"), ("let", 200, "write"), ("let", 999, "go")]


def who_is_in(roof):
    """All that is told of who is in what, by numbers."""
    ones, groups = there(roof), there(roof, "group")
    return (
        [(who, groups_of(roof, who)) for who in ones],
        [(group, all_in(roof, group)) for group in groups],
        [(who, group, chain(roof, who, group), outside(roof, who, group)) for who in ones for group in groups],
    )


def by_rules(roof, rules):
    """All that is told by rules, by numbers."""
    asked = [(who, thing) for who in there(roof) for thing in "xyz"]
    return [(may(roof, rules, *pair), reason(roof, rules, *pair)) for pair in asked], needless(roof, rules)


def some_rules(chance, roof):
    """A list of rules by chance."""
    numbers = there(roof) + [99]
    return [(chance.choice(("let", "bar")), chance.choice(numbers), chance.choice("xyz")) for _ in range(8)]


class KeptTest(unittest.TestCase):
    def keeps(self, chance, roof, deed, *things, **named):
        """Test that a deed lets all numbers, memberships and rules be as they were."""
        rules = some_rules(chance, roof)
        before = there(roof), who_is_in(roof), by_rules(roof, rules)
        deed(*things, **named)
        self.assertEqual((there(roof), who_is_in(roof), by_rules(roof, rules)), before)

    def test_call(self):
        for seed in range(10):
            chance = random.Random(seed)
            roof = crowd(chance)
            for who in there(roof):
                name = roof.name(who)
                self.keeps(chance, roof, roof.call, who, f"new{who}")
                self.assertEqual(roof.name(who), (name[0], f"new{who}", name[2]))

    def test_move_where_all_trust_each_other(self):
        for seed in range(10):
            chance = random.Random(seed)
            roof = crowd(chance, trusting=True)
            for who in there(roof):
                house = chance.choice("abc")
                self.keeps(chance, roof, roof.move, who, house, word=chance.choice((None, f"new{who}")))
                self.assertEqual(roof.name(who)[2], house)

    def test_merge_where_all_trust_each_other(self):
        for seed in range(10):
            chance = random.Random(seed)
            roof = crowd(chance, trusting=True)
            first, second, last = chance.sample("abc", 3)
            self.keeps(chance, roof, roof.merge, first, second)
            self.keeps(chance, roof, roof.merge, second, last)
            self.assertEqual(roof.houses(), [last])
            self.assertEqual({roof.name(who)[2] for who in there(roof)}, {last})

    def test_a_merge_changes_names_not_numbers(self):
        roof = two_houses()
        roof.trust("elm", "oak")
        self.keeps(random.Random(0), roof, roof.merge, "oak", "elm")
        self.assertEqual(roof.name(100), ("one", "ann2", "elm"))
        self.assertEqual(roof.name(200), ("one", "ann", "elm"))
        self.assertEqual(chain(roof, 100, 201), (100, 102, 201))

    def test_move_and_merge_change_memberships_by_trust_alone(self):
        roof = two_houses()
        self.assertEqual((is_in(roof, 100, 201), is_in(roof, 200, 102)), (False, True))
        roof.move(102, "elm")
        # Elm does not trust oak, so those of oak are in crew no more; crew is of kin's house now.
        self.assertEqual((is_in(roof, 100, 102), is_in(roof, 200, 201)), (False, True))
        self.assertEqual(roof.members(102), [100, 200])


class ToldTwiceTest(unittest.TestCase):
    def asks(self, roof):
        """What is told as lists, or else, of a roof."""
        return (
            (groups_of, roof, 100), (all_in, roof, 102), (outside, roof, 100, 201), (chain, roof, 100, 102),
            (is_in, roof, 100, 102), (shows_in, roof, 100, 102, (100, 102)), (shows_out, roof, 100, 201, [102]),
            (may, roof, RULES, 100, "read"), (reason, roof, RULES, 100, "read"), (needless, roof, RULES),
            (parted, roof, RULES, []), (journal, roof), (as_of, roof, 9), (changed, roof, 0, roof.time()),
            (since, roof, 100, 102), (blamed, roof, 100, 102), (played, journal(roof)),
            (journal_text, journal(roof)), (read_journal, journal_text(journal(roof))),
        )

    def test_alike(self):
        roof = two_houses()
        before = told(roof)
        for ask, *things in self.asks(roof):
            self.assertEqual(ask(*things), ask(*things))
            self.assertIs(type(ask(*things)), type(ask(*things)))
        self.assertEqual(told(roof), before)

    def test_lists_are_new_ones(self):
        roof = two_houses()
        before, rows = told(roof), journal(roof)
        lists = 0
        for ask, *things in self.asks(roof):
            first = ask(*things)
            if isinstance(first, list):
                lists += 1
                self.assertTrue(first, ask)
                kept = list(first)
                first.reverse()
                first.append(None)
                self.assertEqual(ask(*things), kept)
        self.assertEqual(lists, 7)
        self.assertEqual((told(roof), journal(roof)), (before, rows))
        self.assertEqual(roof, two_houses())

    def test_roofs_that_are_told_are_new_ones(self):
        roof = two_houses()
        for other in (as_of(roof, roof.time()), played(journal(roof))):
            self.assertEqual(other, roof)
            other.found("ash")
            self.assertNotEqual(other, roof)
            self.assertEqual(roof, two_houses())

    def test_what_is_told(self):
        roof = two_houses()
        self.assertEqual(groups_of(roof, 100), [102])
        self.assertEqual(all_in(roof, 102), [100, 200])
        self.assertEqual(outside(roof, 100, 201), [102])
        self.assertEqual(reason(roof, RULES, 100, "read"), (1, (100, 102)))
        self.assertEqual(needless(roof, RULES), [0, 2, 4])
        self.assertEqual(parted(roof, RULES, []), (100, "read"))
        self.assertEqual(changed(roof, 0, roof.time()), [(100, 102, "in"), (200, 102, "in")])
        self.assertEqual((since(roof, 100, 102), since(roof, 200, 102)), (8, 11))
        self.assertEqual(blamed(roof, 200, 102), ("trust", "oak", "elm"))

    def test_two_roofs_are_apart(self):
        roof, other = Roof(), Roof()
        roof.found("oak")
        self.assertEqual((other.houses(), journal(other)), ([], []))

    def test_refusals_change_nothing(self):
        roof = two_houses()
        before, rows = told(roof), journal(roof)
        wrong = (
            (groups_of, roof, 99), (all_in, roof, 100), (outside, roof, 100, 100), (chain, roof, 99, 102),
            (may, roof, [()], 100, "read"), (reason, roof, RULES, 100, "READ"), (needless, roof, [()]),
            (parted, roof, RULES, [()]), (as_of, roof, 99), (changed, roof, 2, 1), (since, roof, 99, 102),
            (blamed, roof, 100, 100), (played, rows + [None]), (journal_text, rows + [None]), (read_journal, "\n"),
        )
        for ask, *things in wrong:
            with self.assertRaises(RoofError):
                ask(*things)
        self.assertEqual((told(roof), journal(roof)), (before, rows))


if __name__ == "__main__":
    unittest.main()
