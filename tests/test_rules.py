"""[41] rules: who may do what and why, rules that are needless, and lists of rules that part."""

import random
import unittest

from joinedfolk.chains import chain
from joinedfolk.errors import BadName, BadRule, NoOne
from joinedfolk.roofs import Roof
from joinedfolk.rules import may, needless, parted, reason
from telling import STRANGE, crowd, pairs_by_hand, refused, there, told, two_houses

NO_RULES = (
    (), (("let", 100, "read"),), "let", {}, None, True, 100, [None], [[]], [["let", 100, "read"]], [()], ["let"],
    [("let", 100)], [("let", 100, "read", 1)], [("may", 100, "read")], [("Let", 100, "read")], [("", 100, "read")],
    [(True, 100, "read")], [(None, 100, "read")], [(["let"], 100, "read")], [(("let",), 100, "read")],
    [("let", True, "read")], [("let", False, "read")], [("bar", None, "read")], [("let", "100", "read")],
    [("let", 100.0, "read")], [("let", (100,), "read")], [("let", [100], "read")], [("let", ("one", "a", "b"), "read")],
    [("let", 100, "")], [("let", 100, "Read")], [("let", 100, "ninesigns")], [("let", 100, "a b")], [("let", 100, 5)],
    [("let", 100, None)], [("let", 100, True)], [("let", 100, ("read",))], [("let", 100, ["read"])],
    [("let", 100, "read"), ("let", 100, "read"), ("let", True, "read")], [("let", 100, "read"), None],
    [("read", 100, "let")], [(100, "let", "read")],
)


def a_roof():
    """oak with ann 100, bob 101, crew 102, all 103; 100 is in 102, that in 103; 101 in nothing."""
    roof = Roof()
    roof.found("oak")
    for kind, word in (("one", "ann"), ("one", "bob"), ("group", "crew"), ("group", "all")):
        roof.come(kind, word, "oak")
    roof.put_in(100, 102)
    roof.put_in(102, 103)
    return roof


def may_by_hand(pairs, rules, who, thing):
    """Whether one may do a thing, rule by rule, with all (who, group) of which who is in the group."""
    for word, whom, about in rules:
        if about == thing and (whom == who or (who, whom) in pairs):
            return word == "let"
    return False


def all_by_hand(roof, rules, things):
    """All (who, thing) of people of which one may do the thing."""
    pairs = pairs_by_hand(roof)
    return {(who, thing) for who in there(roof, "one") for thing in things if may_by_hand(pairs, rules, who, thing)}


class MayTest(unittest.TestCase):
    def setUp(self):
        self.roof = a_roof()

    def test_no_without_any(self):
        self.assertIs(may(self.roof, [], 100, "read"), False)
        self.assertIsNone(reason(self.roof, [], 100, "read"))
        rules = [("let", 101, "read"), ("let", 100, "write"), ("let", 102, "write")]
        self.assertIs(may(self.roof, rules, 100, "read"), False)
        self.assertIsNone(reason(self.roof, rules, 100, "read"))

    def test_one_that_is_the_whom(self):
        rules = [("let", 100, "read")]
        self.assertIs(may(self.roof, rules, 100, "read"), True)
        self.assertEqual(reason(self.roof, rules, 100, "read"), (0, (100,)))
        self.assertIs(may(self.roof, rules, 101, "read"), False)
        self.assertIs(may(self.roof, rules, 100, "write"), False)

    def test_one_that_is_in_the_whom(self):
        rules = [("let", 101, "read"), ("let", 103, "read")]
        self.assertIs(may(self.roof, rules, 100, "read"), True)
        self.assertEqual(reason(self.roof, rules, 100, "read"), (1, (100, 102, 103)))
        self.assertEqual(reason(self.roof, rules, 102, "read"), (1, (102, 103)))
        self.assertEqual(reason(self.roof, rules, 103, "read"), (1, (103,)))
        self.assertEqual(reason(self.roof, rules, 101, "read"), (0, (101,)))

    def test_a_rule_about_a_member_is_not_about_its_group(self):
        rules = [("let", 100, "read"), ("let", 102, "write")]
        self.assertFalse(may(self.roof, rules, 102, "read"))
        self.assertTrue(may(self.roof, rules, 102, "write"))
        self.assertFalse(may(self.roof, rules, 103, "write"))

    def test_the_first_rule_tells(self):
        rules = [("bar", 102, "write"), ("bar", 102, "read"), ("let", 100, "read"), ("let", 102, "write")]
        self.assertIs(may(self.roof, rules, 100, "read"), False)
        self.assertEqual(reason(self.roof, rules, 100, "read"), (1, (100, 102)))
        self.assertEqual(reason(self.roof, rules, 100, "write"), (0, (100, 102)))
        rules = [("let", 103, "read"), ("bar", 100, "read"), ("bar", 102, "read")]
        self.assertIs(may(self.roof, rules, 100, "read"), True)
        self.assertEqual(reason(self.roof, rules, 100, "read"), (0, (100, 102, 103)))

    def test_numbers_that_are_not_there(self):
        rules = [("bar", 999, "read"), ("bar", -1, "read"), ("bar", 0, "read"), ("bar", 2 ** 80, "read")]
        rules.append(("let", 100, "read"))
        self.assertIs(may(self.roof, rules, 100, "read"), True)
        self.assertEqual(reason(self.roof, rules, 100, "read"), (4, (100,)))
        self.assertEqual(needless(self.roof, rules), [0, 1, 2, 3])
        self.assertIsNone(parted(self.roof, rules, [("let", 100, "read")]))

    def test_one_that_is_no_more_is_about_nobody(self):
        rules = [("bar", 102, "read"), ("let", 100, "read")]
        self.assertFalse(may(self.roof, rules, 100, "read"))
        self.roof.go(102)
        self.assertTrue(may(self.roof, rules, 100, "read"))

    def test_trust_tells(self):
        roof = two_houses()
        rules = [("let", 201, "read")]
        self.assertFalse(may(roof, rules, 100, "read"))
        self.assertIsNone(reason(roof, rules, 100, "read"))
        roof.trust("elm", "oak")
        self.assertTrue(may(roof, rules, 100, "read"))
        self.assertEqual(reason(roof, rules, 100, "read"), (0, (100, 102, 201)))

    def test_a_group_in_itself(self):
        self.roof.put_in(103, 103)
        self.assertEqual(reason(self.roof, [("let", 103, "read")], 103, "read"), (0, (103,)))


class RefusedTest(unittest.TestCase):
    def setUp(self):
        self.roof = a_roof()
        self.before = told(self.roof)

    def tearDown(self):
        self.assertEqual(told(self.roof), self.before)

    def test_no_list_of_rules(self):
        for thing in NO_RULES:
            for ask in (may, reason):
                refused(self, BadRule, ask, self.roof, thing, 100, "read")
                refused(self, BadRule, ask, self.roof, thing, 999, "BAD")
            refused(self, BadRule, needless, self.roof, thing)
            refused(self, BadRule, parted, self.roof, thing, [])
            refused(self, BadRule, parted, self.roof, [], thing)
            refused(self, BadRule, parted, self.roof, thing, thing)

    def test_no_one(self):
        for ask in (may, reason):
            for thing in STRANGE + (99, 104, "100", ("one", "ann", "oak")):
                self.assertEqual(refused(self, NoOne, ask, self.roof, [], thing, "read", field="who"), thing)
                self.assertEqual(refused(self, NoOne, ask, self.roof, [], thing, "BAD", field="who"), thing)

    def test_no_word(self):
        for ask in (may, reason):
            for thing in STRANGE + ("ninesigns", "a-b", ("read",), ["read"], "read "):
                refused(self, BadName, ask, self.roof, [("let", 100, "read")], 100, thing)

    def test_rules_stay_as_they_were(self):
        rules = [("let", 103, "b"), ("bar", 100, "a"), ("let", 103, "b")]
        kept, other = list(rules), [("let", 100, "z")]
        may(self.roof, rules, 100, "a")
        reason(self.roof, rules, 100, "a")
        needless(self.roof, rules)
        parted(self.roof, rules, other)
        self.assertEqual((rules, other), (kept, [("let", 100, "z")]))


class NeedlessTest(unittest.TestCase):
    def setUp(self):
        self.roof = a_roof()

    def tell(self, expected, *rules):
        self.assertEqual(needless(self.roof, list(rules)), expected)

    def test_no_rules(self):
        self.tell([])

    def test_a_rule_that_is_needed(self):
        self.tell([], ("let", 100, "read"))
        self.roof.put_in(101, 103)
        self.tell([], ("bar", 100, "read"), ("let", 103, "read"))

    def test_a_bar_without_a_let_behind_it(self):
        self.tell([0], ("bar", 100, "read"))
        self.tell([1], ("let", 100, "read"), ("bar", 103, "read"))
        self.tell([0], ("bar", 100, "write"), ("let", 100, "read"))

    def test_twice_the_same(self):
        # Each left out alone, the other one tells the same.
        self.tell([0, 1], ("let", 100, "read"), ("let", 100, "read"))
        self.tell([0, 1, 2], ("let", 100, "read"), ("let", 102, "read"), ("let", 103, "read"))

    def test_a_rule_behind_another_one(self):
        self.tell([1], ("let", 100, "read"), ("bar", 102, "read"))
        self.tell([1], ("let", 103, "read"), ("bar", 100, "read"))
        self.tell([0, 1], ("let", 103, "read"), ("let", 100, "read"))

    def test_people_alone_are_asked(self):
        # A group may read by it, but no person.
        self.roof.take_out(100, 102)
        self.tell([0], ("let", 102, "read"))
        self.tell([], ("let", 101, "read"))
        self.tell([0], ("let", 103, "read"), ("let", 101, "read"))

    def test_all_people_are_asked(self):
        self.tell([], ("let", 101, "read"), ("let", 103, "read"))
        self.roof.put_in(101, 103)
        self.tell([0], ("let", 101, "read"), ("let", 103, "read"))


class PartedTest(unittest.TestCase):
    def setUp(self):
        self.roof = a_roof()

    def test_none(self):
        self.assertIsNone(parted(self.roof, [], []))
        self.assertIsNone(parted(self.roof, [("let", 103, "read")], [("let", 100, "read")]))
        self.assertIsNone(parted(self.roof, [("bar", 103, "read")], []))
        self.assertIsNone(parted(self.roof, [("let", 999, "read")], []))

    def test_the_least_person(self):
        rules = [("let", 101, "a"), ("let", 103, "z")]
        self.assertEqual(parted(self.roof, rules, []), (100, "z"))
        self.assertEqual(parted(self.roof, [], rules), (100, "z"))
        self.assertEqual(parted(self.roof, rules, [("let", 100, "z")]), (101, "a"))

    def test_the_least_thing(self):
        rules = [("let", 100, "b"), ("let", 100, "a1"), ("let", 100, "9")]
        self.assertEqual(parted(self.roof, rules, []), (100, "9"))
        self.assertEqual(parted(self.roof, rules, rules[2:]), (100, "a1"))
        self.assertEqual(parted(self.roof, [("let", 100, "c")], [("let", 100, "b")]), (100, "b"))

    def test_things_of_either(self):
        self.assertEqual(parted(self.roof, [("let", 100, "a")], [("let", 100, "a"), ("let", 102, "b")]), (100, "b"))
        self.assertEqual(parted(self.roof, [("let", 100, "a"), ("let", 102, "b")], [("let", 100, "a")]), (100, "b"))

    def test_people_alone(self):
        self.roof.take_out(100, 102)
        self.assertIsNone(parted(self.roof, [("let", 102, "read")], []))

    def test_the_order_of_rules(self):
        rules = [("let", 103, "read"), ("bar", 102, "read")]
        self.assertEqual(parted(self.roof, rules, rules[::-1]), (100, "read"))


class ByHandTest(unittest.TestCase):
    def some_rules(self, chance, roof):
        numbers = there(roof) + [99]
        many = chance.randrange(9)
        return [(chance.choice(("let", "bar")), chance.choice(numbers), chance.choice("xyz")) for _ in range(many)]

    def test_crowds(self):
        for seed in range(60):
            chance = random.Random(seed)
            roof = crowd(chance)
            rules, other = self.some_rules(chance, roof), self.some_rules(chance, roof)
            with self.subTest(seed=seed):
                self.compare(roof, rules)
                mine, theirs = all_by_hand(roof, rules, "xyz"), all_by_hand(roof, other, "xyz")
                self.assertEqual(parted(roof, rules, other), min(mine ^ theirs, default=None))

    def compare(self, roof, rules):
        pairs = pairs_by_hand(roof)
        for who in there(roof):
            for thing in "xyzw":
                expected = may_by_hand(pairs, rules, who, thing)
                self.assertIs(may(roof, rules, who, thing), expected)
                told_why = reason(roof, rules, who, thing)
                if told_why is None:
                    self.assertFalse(expected)
                else:
                    place, way = told_why
                    word, whom, about = rules[place]
                    self.assertEqual((word == "let", about), (expected, thing))
                    self.assertEqual(way, (who,) if whom == who else chain(roof, who, whom))
                    self.assertFalse([each for each in rules[:place] if reason(roof, [each], who, thing)])
        now = all_by_hand(roof, rules, "xyz")
        without = [place for place in range(len(rules))
                   if all_by_hand(roof, rules[:place] + rules[place + 1:], "xyz") == now]
        self.assertEqual(needless(roof, rules), without)


if __name__ == "__main__":
    unittest.main()
