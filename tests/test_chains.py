"""[31] memberships that count, chains, who is in, and closed lists that show that none is."""

import itertools
import random
import unittest

from joinedfolk.chains import all_in, chain, groups_of, is_in, outside, shows_in, shows_out
from joinedfolk.errors import NoOne
from joinedfolk.roofs import Roof
from telling import STRANGE, chains_by_hand, counted, crowd, pairs_by_hand, refused, there, told, two_houses

NOBODY = STRANGE + (99, 103, 202, -100, 2 ** 70, "100", "ann@oak", ("one", "ann", "oak"), 100.5)


def a_house(kinds):
    """One house oak, whose people (o) and groups (g) have the numbers from 100 on."""
    roof = Roof()
    roof.found("oak")
    for place, kind in enumerate(kinds):
        roof.come("one" if kind == "o" else "group", f"w{place}", "oak")
    return roof


def with_members(kinds, *pairs):
    """Such a house with memberships (who, group)."""
    roof = a_house(kinds)
    for who, group in pairs:
        roof.put_in(who, group)
    return roof


class CountsTest(unittest.TestCase):
    def setUp(self):
        self.roof = Roof()
        self.roof.found("oak")
        self.roof.found("elm")
        self.roof.come("one", "ann", "oak")
        self.roof.come("group", "crew", "elm")

    def is_in_there(self, expected):
        self.assertIs(is_in(self.roof, 100, 200), expected)
        self.assertEqual(chain(self.roof, 100, 200), (100, 200) if expected else None)
        self.assertEqual(groups_of(self.roof, 100), [200] if expected else [])
        self.assertEqual(all_in(self.roof, 200), [100] if expected else [])
        self.assertIs(shows_in(self.roof, 100, 200, (100, 200)), expected)
        self.assertEqual(outside(self.roof, 100, 200), None if expected else [])
        self.assertIs(shows_out(self.roof, 100, 200, []), not expected)

    def test_no_membership(self):
        self.roof.trust("elm", "oak")
        self.is_in_there(False)

    def test_a_membership_of_a_house_that_is_not_trusted(self):
        self.roof.put_in(100, 200)
        self.assertEqual(self.roof.members(200), [100])
        self.is_in_there(False)

    def test_trust_of_the_groups_house(self):
        self.roof.put_in(100, 200)
        self.roof.trust("elm", "oak")
        self.is_in_there(True)
        self.roof.mistrust("elm", "oak")
        self.is_in_there(False)

    def test_trust_the_other_way_round_does_not_count(self):
        self.roof.put_in(100, 200)
        self.roof.trust("oak", "elm")
        self.is_in_there(False)

    def test_the_same_house_needs_no_trust(self):
        self.roof.put_in(100, 200)
        self.roof.move(100, "elm")
        self.is_in_there(True)
        self.roof.move(200, "oak")
        self.is_in_there(False)

    def test_trust_is_not_handed_on_by_a_third_house(self):
        self.roof.found("ash")
        self.roof.put_in(100, 200)
        self.roof.trust("elm", "ash")
        self.roof.trust("ash", "oak")
        self.is_in_there(False)

    def test_each_step_asks_the_house_of_its_own_group(self):
        self.roof.found("ash")
        self.roof.come("group", "all", "ash")
        self.roof.put_in(100, 200)
        self.roof.put_in(200, 300)
        self.roof.trust("elm", "oak")
        self.assertFalse(is_in(self.roof, 100, 300))
        self.assertEqual(outside(self.roof, 100, 300), [200])
        # Ash need not trust oak, where the one is from, but elm, where its member is from.
        self.roof.trust("ash", "oak")
        self.assertFalse(is_in(self.roof, 100, 300))
        self.roof.mistrust("ash", "oak")
        self.roof.trust("ash", "elm")
        self.assertEqual(chain(self.roof, 100, 300), (100, 200, 300))
        self.assertEqual(groups_of(self.roof, 100), [200, 300])
        self.assertEqual(groups_of(self.roof, 200), [300])


class ChainTest(unittest.TestCase):
    def test_a_person_in_groups_in_groups(self):
        roof = with_members("oggg", (100, 101), (101, 102), (102, 103))
        self.assertEqual(chain(roof, 100, 103), (100, 101, 102, 103))
        self.assertEqual(chain(roof, 101, 103), (101, 102, 103))
        self.assertIsNone(chain(roof, 103, 101))

    def test_as_short_as_any(self):
        roof = with_members("ogggg", (100, 101), (101, 102), (102, 103), (100, 104), (104, 103))
        self.assertEqual(chain(roof, 100, 103), (100, 104, 103))
        roof.put_in(100, 103)
        self.assertEqual(chain(roof, 100, 103), (100, 103))
        roof.take_out(100, 103)
        self.assertEqual(chain(roof, 100, 103), (100, 104, 103))

    def test_the_least_of_several(self):
        roof = with_members("oggggg", (100, 103), (103, 105), (100, 102), (102, 105), (100, 104), (104, 105))
        self.assertEqual(chain(roof, 100, 105), (100, 102, 105))

    def test_the_least_by_the_first_number_that_differs(self):
        # By 101 it goes on with 104 alone, by 102 with 103: the first number tells.
        roof = with_members("ogggggg", (100, 102), (102, 103), (103, 106), (100, 101), (101, 104), (104, 106))
        self.assertEqual(chain(roof, 100, 106), (100, 101, 104, 106))
        # The least first number of all, 101, is of no use where it leads on by more steps.
        roof.take_out(104, 106)
        roof.put_in(104, 105)
        roof.put_in(105, 106)
        self.assertEqual(chain(roof, 100, 106), (100, 102, 103, 106))

    def test_the_least_of_those_that_count(self):
        roof = two_houses()
        roof.come("group", "all", "oak")
        roof.put_in(100, 201)
        roof.put_in(201, 103)
        roof.put_in(102, 103)
        roof.put_in(100, 102)
        self.assertEqual(chain(roof, 100, 103), (100, 102, 103))
        roof.mistrust("oak", "elm")
        roof.take_out(100, 102)
        self.assertIsNone(chain(roof, 100, 103))

    def test_nothing_is_in_itself(self):
        roof = with_members("og", (101, 101))
        self.assertIsNone(chain(roof, 101, 101))
        self.assertIs(is_in(roof, 101, 101), False)
        self.assertEqual(groups_of(roof, 101), [])
        self.assertEqual(all_in(roof, 101), [])
        self.assertEqual(outside(roof, 101, 101), [])
        self.assertFalse(shows_in(roof, 101, 101, (101, 101)))
        self.assertFalse(shows_in(roof, 101, 101, (101,)))
        self.assertTrue(shows_out(roof, 101, 101, []))
        self.assertFalse(shows_out(roof, 101, 101, [101]))
        roof.put_in(100, 101)
        self.assertEqual(chain(roof, 100, 101), (100, 101))
        self.assertEqual(all_in(roof, 101), [100])

    def test_groups_in_a_ring(self):
        roof = with_members("ogggg", (101, 102), (102, 103), (103, 101), (100, 102))
        self.assertEqual(chain(roof, 100, 101), (100, 102, 103, 101))
        self.assertEqual(chain(roof, 101, 103), (101, 102, 103))
        self.assertIsNone(chain(roof, 101, 101))
        self.assertIsNone(chain(roof, 100, 104))
        self.assertEqual(groups_of(roof, 101), [102, 103])
        self.assertEqual(groups_of(roof, 100), [101, 102, 103])
        self.assertEqual(all_in(roof, 101), [100])
        self.assertEqual(outside(roof, 100, 104), [101, 102, 103])
        self.assertEqual(outside(roof, 101, 104), [102, 103])
        self.assertEqual(outside(roof, 101, 101), [102, 103])
        self.assertTrue(shows_out(roof, 101, 101, [102, 103]))

    def test_all_in_tells_people_alone(self):
        roof = with_members("oogg", (100, 102), (102, 103), (101, 103))
        self.assertEqual(all_in(roof, 103), [100, 101])
        self.assertEqual(all_in(roof, 102), [100])
        self.assertEqual(chain(roof, 102, 103), (102, 103))

    def test_a_long_chain(self):
        many = 1500
        roof = Roof()
        roof.found("oak")
        for place in range(many):
            roof.come("group", f"g{place}", "oak")
        for who in range(100, 100 + many - 1):
            roof.put_in(who, who + 1)
        last = 100 + many - 1
        self.assertEqual(chain(roof, 100, last), tuple(range(100, last + 1)))
        self.assertTrue(is_in(roof, 100, last))
        self.assertEqual(len(groups_of(roof, 100)), many - 1)
        self.assertEqual(outside(roof, last, 100), [])


class ShowsTest(unittest.TestCase):
    def setUp(self):
        self.roof = with_members("oogggg", (100, 102), (102, 103), (103, 104), (100, 104), (101, 105), (104, 104))

    def test_every_chain_shows_in(self):
        for thing in ((100, 104), (100, 102, 103, 104)):
            self.assertIs(shows_in(self.roof, 100, 104, thing), True)

    def test_no_other_thing_shows_in(self):
        things = (
            (100,), (104,), (100, 103, 104), (100, 102, 104), (102, 103, 104), (100, 102, 103), (100, 102, 103, 104, 105),
            (101, 102, 103, 104), (100, 102, 105, 104), (100, 102, 102, 103, 104), (100, 104, 104), (100, 100, 104),
            (104, 103, 102, 100), (104, 100), (100, 103, 102, 104), [100, 104], [100, 102, 103, 104], (100, 104.0),
            (100.0, 104), (100, "104"), ("100", "104"), (100, None), (None, 104), (100, True, 104), (100, [102], 104),
            (100, (102, 103), 104), (100, 999, 104), (100, -1, 104), ((100, 104),), "100 104", {100: 104}, 100, 104,
            (100, 101, 104), (100, 102, 101, 103, 104), (100, {}, 104),
        )
        for thing in things + STRANGE:
            self.assertIs(shows_in(self.roof, 100, 104, thing), False, thing)

    def test_a_chain_of_others_does_not_show_in(self):
        self.assertTrue(shows_in(self.roof, 101, 105, (101, 105)))
        self.assertFalse(shows_in(self.roof, 100, 105, (101, 105)))
        self.assertFalse(shows_in(self.roof, 101, 104, (100, 104)))
        self.assertFalse(shows_in(self.roof, 101, 104, (101, 105)))

    def test_a_chain_goes_through_members_that_count_alone(self):
        roof = two_houses()
        # 102 of oak is a member of 201 of elm, which does not trust oak.
        self.assertFalse(shows_in(roof, 100, 201, (100, 102, 201)))
        roof.trust("elm", "oak")
        self.assertTrue(shows_in(roof, 100, 201, (100, 102, 201)))
        self.assertTrue(shows_in(roof, 200, 201, (200, 102, 201)))
        roof.mistrust("oak", "elm")
        self.assertFalse(shows_in(roof, 200, 201, (200, 102, 201)))

    def test_closed_lists_show_out(self):
        self.assertIs(shows_out(self.roof, 100, 105, [102, 103, 104]), True)
        self.assertIs(shows_out(self.roof, 101, 102, [105]), True)
        # More than is needed is fine where it is closed, too.
        self.assertIs(shows_out(self.roof, 101, 102, [104, 105]), True)
        self.assertIs(shows_out(self.roof, 101, 102, [103, 104, 105]), True)
        # 103 is a member of 104, which is missing.
        self.assertIs(shows_out(self.roof, 101, 102, [103, 105]), False)

    def test_no_other_thing_shows_out(self):
        things = (
            [], [102], [102, 103], [102, 104], [103, 104], [104, 103, 102], [102, 104, 103], [102, 103, 104, 104],
            [102, 102, 103, 104], [102, 103, 104, 105], [100, 102, 103, 104], [101, 102, 103, 104], (102, 103, 104),
            [102, 103, 104, 106], [102, 103, 104, 999], [-1, 102, 103, 104], [True, 102, 103, 104], [0, 102, 103, 104],
            [102, 103, 104.0], [102.0, 103, 104], ["102", "103", "104"], [102, 103, None], [102, 103, 104, None],
            [102, [103], 104], [(102, 103, 104)], [[102, 103, 104]], {102: 1, 103: 1, 104: 1}, "102 103 104", 102,
            [None, 102, 103, 104], [102, {}, 104],
        )
        for thing in things + STRANGE:
            self.assertIs(shows_out(self.roof, 100, 105, thing), False, thing)

    def test_no_list_shows_out_one_that_is_in(self):
        groups = [102, 103, 104, 105]
        for many in range(5):
            for thing in itertools.combinations(groups, many):
                self.assertFalse(shows_out(self.roof, 100, 104, list(thing)), thing)

    def test_the_one_itself_need_not_be_on_the_list(self):
        roof = with_members("ggg", (100, 101), (101, 100), (100, 100))
        self.assertEqual(outside(roof, 100, 102), [101])
        self.assertTrue(shows_out(roof, 100, 102, [101]))
        self.assertTrue(shows_out(roof, 100, 102, [100, 101]))
        self.assertFalse(shows_out(roof, 100, 102, [100]))
        self.assertFalse(shows_out(roof, 100, 102, []))
        self.assertFalse(shows_out(roof, 100, 102, [101, 102]))
        self.assertEqual(outside(roof, 100, 100), [101])
        self.assertTrue(shows_out(roof, 100, 100, [101]))
        self.assertFalse(shows_out(roof, 100, 100, [100, 101]))

    def test_things_stay_as_they_were(self):
        thing = [104, 102, 103]
        shows_out(self.roof, 100, 105, thing)
        self.assertEqual(thing, [104, 102, 103])
        thing = [102, 103, 104]
        self.assertTrue(shows_out(self.roof, 100, 105, thing))
        self.assertEqual(thing, [102, 103, 104])


class RefusedTest(unittest.TestCase):
    def test_who_and_group(self):
        roof = two_houses()
        before = told(roof)
        asks = (
            is_in, chain, outside, lambda *things: shows_in(*things, (100, 102)), lambda *things: shows_out(*things, []),
            lambda *things: shows_in(*things, None), lambda *things: shows_out(*things, None),
        )
        for ask in asks:
            for thing in NOBODY:
                self.assertEqual(refused(self, NoOne, ask, roof, thing, 102, field="who"), thing)
                self.assertEqual(refused(self, NoOne, ask, roof, thing, 101, field="who"), thing)
                self.assertEqual(refused(self, NoOne, ask, roof, thing, [], field="who"), thing)
            for thing in NOBODY + (100, 101, 200):
                self.assertEqual(refused(self, NoOne, ask, roof, 100, thing, field="who"), thing)
                self.assertEqual(refused(self, NoOne, ask, roof, 201, thing, field="who"), thing)
        self.assertEqual(told(roof), before)

    def test_one_alone(self):
        roof = two_houses()
        for thing in NOBODY:
            self.assertEqual(refused(self, NoOne, groups_of, roof, thing, field="who"), thing)
        for thing in NOBODY + (100, 200):
            self.assertEqual(refused(self, NoOne, all_in, roof, thing, field="who"), thing)

    def test_one_that_is_no_more(self):
        roof = two_houses()
        roof.go(100)
        roof.go(201)
        self.assertEqual(refused(self, NoOne, is_in, roof, 100, 201, field="who"), 100)
        self.assertEqual(refused(self, NoOne, chain, roof, 101, 201, field="who"), 201)
        self.assertFalse(shows_in(roof, 101, 102, (101, 201, 102)))
        self.assertFalse(shows_out(roof, 101, 102, [201]))


class ByHandTest(unittest.TestCase):
    def test_crowds(self):
        for seed in range(60):
            with self.subTest(seed=seed):
                self.compare(crowd(random.Random(seed)), random.Random(seed))

    def compare(self, roof, chance):
        before = told(roof)
        ones, groups = there(roof), there(roof, "group")
        pairs = pairs_by_hand(roof)
        for who in ones:
            self.assertEqual(groups_of(roof, who), [group for one, group in pairs if one == who])
            for group in groups:
                self.compare_pair(roof, who, group, (who, group) in pairs, chance)
        for group in groups:
            self.assertEqual(all_in(roof, group), [who for who in there(roof, "one") if (who, group) in pairs])
        self.assertEqual(told(roof), before)

    def compare_pair(self, roof, who, group, expected, chance):
        ways = chains_by_hand(roof, who, group)
        self.assertIs(is_in(roof, who, group), expected)
        self.assertEqual(bool(ways), expected)
        least = min(ways, key=lambda way: (len(way), way)) if ways else None
        self.assertEqual(chain(roof, who, group), least)
        for way in ways:
            self.assertTrue(shows_in(roof, who, group, way))
        for way in ways[:3]:
            others = [way[::-1], way[:-1], way[1:], way + way[-1:], list(way), way[:1] + way]
            for other in others + [way[:1] + tuple(chance.sample(there(roof), 2)) + way[-1:]]:
                self.assertIs(shows_in(roof, who, group, other), other in ways, other)
        closed = outside(roof, who, group)
        self.assertEqual(closed is None, expected)
        if closed is not None:
            self.assertEqual(closed, groups_of(roof, who))
            self.assertTrue(shows_out(roof, who, group, closed))
            for place in range(len(closed)):
                self.assertFalse(shows_out(roof, who, group, closed[:place] + closed[place + 1:]))

    def test_closed_lists_of_all_sorts(self):
        for seed in range(12):
            roof = crowd(random.Random(seed))
            groups, pairs = there(roof, "group"), counted(roof)
            lists = [list(some) for many in range(7) for some in itertools.combinations(groups, many)]
            for who in there(roof):
                for group in groups:
                    for thing in lists:
                        due = {above for one, above in pairs if one == who or one in thing} - {who}
                        expected = due <= set(thing) and group not in thing
                        self.assertIs(shows_out(roof, who, group, thing), expected)


if __name__ == "__main__":
    unittest.main()
