"""[21], [22] each deed but merge: what it does, what it tells, and every refusal."""

import unittest

from joinedfolk.errors import BadName, NoHouse, NoOne, Taken
from joinedfolk.roofs import Roof
from telling import STRANGE, refused, told, two_houses

NOBODY = tuple([thing for thing in STRANGE]) + (99, 103, 199, 202, "100", "ann@oak", ("one", "ann", "oak"))
NO_HOUSE = STRANGE + ("ash", "oak ", ("oak",), ["oak"], 100)
NO_WORD = STRANGE + ("ninesigns", "a-b", "#a", ("ann",), ["ann"])


class DeedsTest(unittest.TestCase):
    def setUp(self):
        self.roof = two_houses()
        self.before = told(self.roof)

    def unchanged(self):
        self.assertEqual(told(self.roof), self.before)
        self.assertEqual(self.roof, two_houses())

    def refuse(self, kind, deed, *things, field=None, **named):
        """Test a refusal, and that it changes nothing; told is its field."""
        value = refused(self, kind, deed, *things, field=field, **named)
        self.unchanged()
        return value

    def same_but_time(self):
        """Test that a deed changed nothing but the time."""
        now = told(self.roof)
        self.assertEqual(now.pop("time"), self.before["time"] + 1)
        self.assertEqual(now, {key: self.before[key] for key in now})

    def test_a_new_roof(self):
        roof = Roof()
        self.assertEqual(roof.time(), 0)
        self.assertEqual(roof.houses(), [])

    def test_each_deed_is_one_step_of_time(self):
        roof = Roof()
        steps = [
            (roof.found, "oak"), (roof.found, "elm"), (roof.come, "one", "ann", "oak"), (roof.come, "group", "g", "elm"),
            (roof.put_in, 100, 200), (roof.take_out, 100, 200), (roof.call, 100, "bea"), (roof.move, 100, "elm"),
            (roof.trust, "oak", "elm"), (roof.mistrust, "oak", "elm"), (roof.go, 100), (roof.merge, "oak", "elm"),
        ]
        for place, (deed, *things) in enumerate(steps):
            self.assertEqual(roof.time(), place)
            deed(*things)
        self.assertEqual(roof.time(), len(steps))

    def test_found(self):
        self.assertIsNone(self.roof.found("ash"))
        self.assertEqual(self.roof.houses(), ["ash", "elm", "oak"])
        self.assertEqual(self.roof.ranges("ash"), [300])
        self.assertEqual(self.roof.everyone("ash"), [])
        self.assertEqual(self.roof.trusted("ash"), [])

    def test_found_refused(self):
        for thing in NO_WORD:
            self.refuse(BadName, self.roof.found, thing)
        self.assertEqual(self.refuse(Taken, self.roof.found, "oak", field="taken"), "oak")

    def test_come(self):
        self.assertEqual(self.roof.come("one", "crew", "oak"), 103)
        self.assertEqual(self.roof.come("group", "ann", "oak"), 104)
        self.assertEqual(self.roof.name(103), ("one", "crew", "oak"))
        self.assertEqual(self.roof.name(104), ("group", "ann", "oak"))
        self.assertEqual(self.roof.number(("group", "ann", "oak")), 104)
        self.assertEqual(self.roof.members(104), [])
        self.assertEqual(self.roof.everyone("oak"), [100, 101, 102, 103, 104])

    def test_come_refused(self):
        for thing in STRANGE + ("two", "Group", "person", ("one",), ["group"]):
            self.refuse(BadName, self.roof.come, thing, "new", "oak")
        for thing in NO_WORD:
            self.refuse(BadName, self.roof.come, "one", thing, "oak")
        for thing in NO_HOUSE:
            self.refuse(NoHouse, self.roof.come, "one", "new", thing)
        taken = self.refuse(Taken, self.roof.come, "group", "crew", "oak", field="taken")
        self.assertEqual(taken, ("group", "crew", "oak"))

    def test_come_refuses_in_order(self):
        self.refuse(BadName, self.roof.come, "two", "BAD", "ash")
        self.refuse(BadName, self.roof.come, "one", "BAD", "ash")
        self.refuse(NoHouse, self.roof.come, "one", "ann", "ash")

    def test_go_of_a_person(self):
        self.assertIsNone(self.roof.go(100))
        self.assertEqual(self.roof.everyone("oak"), [101, 102])
        self.assertEqual(self.roof.members(102), [200])
        self.assertEqual(refused(self, NoOne, self.roof.name, 100, field="who"), 100)
        refused(self, NoOne, self.roof.number, ("one", "ann", "oak"))

    def test_go_frees_the_name_not_the_number(self):
        self.roof.go(100)
        self.assertEqual(self.roof.come("one", "ann", "oak"), 103)
        self.assertEqual(self.roof.number(("one", "ann", "oak")), 103)
        self.assertEqual(self.roof.members(102), [200])
        refused(self, NoOne, self.roof.go, 100)

    def test_go_of_a_group(self):
        self.assertIsNone(self.roof.go(102))
        self.assertEqual(self.roof.members(201), [])
        refused(self, NoOne, self.roof.members, 102)
        self.assertEqual(self.roof.everyone("oak"), [100, 101])
        self.assertIsNone(self.roof.go(100))
        self.assertEqual(self.roof.come("group", "crew", "oak"), 103)
        self.assertEqual(self.roof.members(103), [])

    def test_go_of_a_group_in_itself(self):
        self.roof.put_in(102, 102)
        self.assertEqual(self.roof.members(102), [100, 102, 200])
        self.roof.go(102)
        self.assertEqual(self.roof.members(201), [])
        self.assertEqual(self.roof.everyone("oak"), [100, 101])

    def test_go_refused(self):
        for thing in NOBODY:
            self.assertEqual(self.refuse(NoOne, self.roof.go, thing, field="who"), thing)

    def test_put_in(self):
        self.assertIsNone(self.roof.put_in(101, 102))
        self.assertEqual(self.roof.members(102), [100, 101, 200])
        self.assertIsNone(self.roof.put_in(201, 102))
        self.assertEqual(self.roof.members(102), [100, 101, 200, 201])
        self.assertEqual(self.roof.members(201), [102])

    def test_take_out(self):
        self.assertIsNone(self.roof.take_out(100, 102))
        self.assertEqual(self.roof.members(102), [200])
        self.assertIsNone(self.roof.take_out(102, 201))
        self.assertEqual(self.roof.members(201), [])
        self.assertEqual(self.roof.members(102), [200])
        self.roof.put_in(100, 102)
        self.assertEqual(self.roof.members(102), [100, 200])

    def test_put_in_and_take_out_refused(self):
        for deed in (self.roof.put_in, self.roof.take_out):
            for thing in NOBODY:
                self.assertEqual(self.refuse(NoOne, deed, thing, 102, field="who"), thing)
                self.assertEqual(self.refuse(NoOne, deed, thing, 101, field="who"), thing)
                self.assertEqual(self.refuse(NoOne, deed, thing, None, field="who"), thing)
            for thing in NOBODY + (100, 200):
                self.assertEqual(self.refuse(NoOne, deed, 100, thing, field="who"), thing)

    def test_deeds_that_change_nothing_are_deeds(self):
        idle = (
            (self.roof.put_in, 100, 102), (self.roof.take_out, 101, 102), (self.roof.move, 100, "oak"),
            (self.roof.trust, "oak", "elm"), (self.roof.mistrust, "elm", "oak"),
        )
        for deed, *things in idle:
            deed(*things)
            self.same_but_time()
            self.assertEqual(self.roof, two_houses())
            self.roof.take_back()
            self.unchanged()

    def test_call(self):
        self.assertEqual(self.roof.call(100, "bea"), ("one", "bea", "oak"))
        self.assertEqual(self.roof.name(100), ("one", "bea", "oak"))
        self.assertEqual(self.roof.number(("one", "bea", "oak")), 100)
        refused(self, NoOne, self.roof.number, ("one", "ann", "oak"))
        self.assertEqual(self.roof.members(102), [100, 200])
        self.assertEqual(self.roof.call(102, "bea"), ("group", "bea", "oak"))
        self.assertEqual(self.roof.come("one", "ann", "oak"), 103)

    def test_call_refused(self):
        for thing in NOBODY:
            self.assertEqual(self.refuse(NoOne, self.roof.call, thing, "new", field="who"), thing)
            self.assertEqual(self.refuse(NoOne, self.roof.call, thing, "BAD", field="who"), thing)
        for thing in NO_WORD:
            self.refuse(BadName, self.roof.call, 100, thing)
        self.assertEqual(self.refuse(Taken, self.roof.call, 100, "bob", field="taken"), ("one", "bob", "oak"))

    def test_call_where_it_is_called_so(self):
        self.assertEqual(self.refuse(Taken, self.roof.call, 100, "ann", field="taken"), ("one", "ann", "oak"))
        self.assertEqual(self.refuse(Taken, self.roof.call, 102, "crew", field="taken"), ("group", "crew", "oak"))

    def test_move_by_its_own_word(self):
        self.assertEqual(self.roof.move(101, "elm"), ("one", "bob", "elm"))
        self.assertEqual(self.roof.name(101), ("one", "bob", "elm"))
        self.assertEqual(self.roof.everyone("oak"), [100, 102])
        self.assertEqual(self.roof.everyone("elm"), [101, 200, 201])
        refused(self, NoOne, self.roof.number, ("one", "bob", "oak"))
        self.assertEqual(self.roof.ranges("elm"), [200])

    def test_move_by_another_word(self):
        self.assertEqual(self.roof.move(100, "elm", word="bea"), ("one", "bea", "elm"))
        self.assertEqual(self.roof.number(("one", "bea", "elm")), 100)
        self.assertEqual(self.roof.members(102), [100, 200])
        self.assertEqual(self.roof.come("one", "ann", "oak"), 103)

    def test_move_of_a_group_keeps_its_members(self):
        self.assertEqual(self.roof.move(102, "elm", word=None), ("group", "crew", "elm"))
        self.assertEqual(self.roof.members(102), [100, 200])
        self.assertEqual(self.roof.members(201), [102])

    def test_move_within_its_house(self):
        self.assertEqual(self.roof.move(100, "oak"), ("one", "ann", "oak"))
        self.same_but_time()
        self.assertEqual(self.roof.move(100, "oak", word="ann"), ("one", "ann", "oak"))
        self.assertEqual(self.roof.move(100, "oak", word="bea"), ("one", "bea", "oak"))
        self.assertEqual(self.roof.number(("one", "bea", "oak")), 100)

    def test_move_refused(self):
        for thing in NOBODY:
            self.assertEqual(self.refuse(NoOne, self.roof.move, thing, "ash", word="BAD", field="who"), thing)
        for thing in NO_HOUSE:
            self.refuse(NoHouse, self.roof.move, 100, thing)
            self.refuse(NoHouse, self.roof.move, 100, thing, word="BAD")
        for thing in NO_WORD:
            if thing is not None:
                self.refuse(BadName, self.roof.move, 100, "elm", word=thing)
        self.assertEqual(self.refuse(Taken, self.roof.move, 100, "elm", field="taken"), ("one", "ann", "elm"))
        taken = self.refuse(Taken, self.roof.move, 101, "elm", word="ann", field="taken")
        self.assertEqual(taken, ("one", "ann", "elm"))
        taken = self.refuse(Taken, self.roof.move, 100, "oak", word="bob", field="taken")
        self.assertEqual(taken, ("one", "bob", "oak"))

    def test_trust_goes_one_way(self):
        self.assertIsNone(self.roof.trust("elm", "oak"))
        self.assertEqual(self.roof.trusted("elm"), ["oak"])
        self.assertIsNone(self.roof.mistrust("oak", "elm"))
        self.assertEqual(self.roof.trusted("oak"), [])
        self.assertEqual(self.roof.trusted("elm"), ["oak"])

    def test_trust_and_mistrust_refused(self):
        for deed in (self.roof.trust, self.roof.mistrust):
            for thing in NO_HOUSE:
                self.refuse(NoHouse, deed, thing, "oak")
                self.refuse(NoHouse, deed, "oak", thing)
                self.refuse(NoHouse, deed, thing, thing)
            self.refuse(NoHouse, deed, "oak", "oak")

    def test_what_is_told_is_refused(self):
        for thing in NO_HOUSE:
            self.refuse(NoHouse, self.roof.ranges, thing)
            self.refuse(NoHouse, self.roof.everyone, thing)
            self.refuse(NoHouse, self.roof.trusted, thing)
        for thing in NOBODY:
            self.assertEqual(self.refuse(NoOne, self.roof.name, thing, field="who"), thing)
            self.assertEqual(self.refuse(NoOne, self.roof.members, thing, field="who"), thing)
        self.assertEqual(self.refuse(NoOne, self.roof.members, 100, field="who"), 100)

    def test_number_refused(self):
        for thing in STRANGE + ("ann@oak", 100, ["one", "ann", "oak"], ("one", ["ann"], "oak"), ("one", "ann", {})):
            self.refuse(BadName, self.roof.number, thing)
        for name in (("group", "ann", "oak"), ("one", "bob", "elm"), ("one", "ann", "ash")):
            self.assertEqual(self.refuse(NoOne, self.roof.number, name, field="who"), name)

    def test_lists_that_are_told_are_new_ones(self):
        asks = (
            (self.roof.houses,), (self.roof.ranges, "oak"), (self.roof.everyone, "oak"), (self.roof.members, 102),
            (self.roof.trusted, "oak"),
        )
        for ask, *things in asks:
            told_now = ask(*things)
            self.assertIs(type(told_now), list)
            self.assertTrue(told_now)
            told_now.clear()
            self.unchanged()

    def test_lists_rise(self):
        roof = Roof()
        for house in ("z", "b", "a1", "a", "10", "9"):
            roof.found(house)
        self.assertEqual(roof.houses(), ["10", "9", "a", "a1", "b", "z"])
        for house in ("z", "9", "b"):
            roof.trust("a", house)
        self.assertEqual(roof.trusted("a"), ["9", "b", "z"])
        group = roof.come("group", "g", "9")
        numbers = [roof.come("one", "p", house) for house in ("z", "10", "b", "a")]
        for who in (numbers[1], group, numbers[3], numbers[0], numbers[2]):
            roof.put_in(who, group)
        self.assertEqual(roof.members(group), sorted(numbers + [group]))
        for place, who in enumerate(reversed(numbers)):
            roof.move(who, "9", word=f"p{place}")
        self.assertEqual(roof.everyone("9"), sorted(numbers + [group]))


if __name__ == "__main__":
    unittest.main()
