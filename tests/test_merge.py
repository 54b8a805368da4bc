"""[22] merge: names, ranges, trust, what is told, and its refusals."""

import unittest

from joinedfolk.errors import NoHouse, NoOne
from joinedfolk.roofs import Roof
from telling import STRANGE, refused, told, two_houses


def with_people(words, other_words):
    """Houses a and b with people of these words, from 100 and from 200 on."""
    roof = Roof()
    roof.found("a")
    roof.found("b")
    for word in words:
        roof.come("one", word, "a")
    for word in other_words:
        roof.come("one", word, "b")
    return roof


def words_of(came):
    return [name[1] for who, name in came]


class MergeTest(unittest.TestCase):
    def test_all_are_of_the_other_house(self):
        roof = two_houses()
        came = roof.merge("oak", "elm")
        names = [(100, ("one", "ann2", "elm")), (101, ("one", "bob", "elm")), (102, ("group", "crew", "elm"))]
        self.assertEqual(came, names)
        self.assertEqual(roof.houses(), ["elm"])
        self.assertEqual(roof.everyone("elm"), [100, 101, 102, 200, 201])
        for who, name in names:
            self.assertEqual(roof.name(who), name)
            self.assertEqual(roof.number(name), who)
        self.assertEqual(roof.name(200), ("one", "ann", "elm"))
        self.assertEqual(roof.number(("one", "ann", "elm")), 200)
        self.assertEqual(roof.members(102), [100, 200])
        self.assertEqual(roof.members(201), [102])

    def test_the_house_is_no_more(self):
        roof = two_houses()
        roof.merge("oak", "elm")
        for ask in (roof.ranges, roof.everyone, roof.trusted):
            refused(self, NoHouse, ask, "oak")
        refused(self, NoHouse, roof.come, "one", "new", "oak")
        name = ("one", "bob", "oak")
        self.assertEqual(refused(self, NoOne, roof.number, name, field="who"), name)

    def test_a_house_without_people(self):
        roof = with_people([], ["ann"])
        self.assertEqual(roof.merge("a", "b"), [])
        self.assertEqual(roof.ranges("b"), [100, 200])

    def test_what_is_told_is_a_new_list(self):
        roof = with_people(["ann"], [])
        roof.merge("a", "b").clear()
        self.assertEqual(roof.everyone("b"), [100])

    def test_names_of_another_kind_are_free(self):
        roof = with_people(["ann"], [])
        roof.come("group", "ann", "b")
        self.assertEqual(roof.merge("a", "b"), [(100, ("one", "ann", "b"))])

    def test_names_of_groups_that_are_taken(self):
        roof = Roof()
        roof.found("a")
        roof.found("b")
        roof.come("group", "crew", "a")
        roof.come("group", "crew", "b")
        roof.come("one", "crew2", "b")
        self.assertEqual(roof.merge("a", "b"), [(100, ("group", "crew2", "b"))])

    def test_the_least_number_from_2_on(self):
        roof = with_people(["ann"], ["ann", "ann2", "ann4"])
        self.assertEqual(words_of(roof.merge("a", "b")), ["ann3"])
        roof = with_people(["ann"], ["ann", "ann1", "ann0"])
        self.assertEqual(words_of(roof.merge("a", "b")), ["ann2"])
        roof = with_people(["ann"], ["ann"] + [f"ann{number}" for number in range(2, 12)])
        self.assertEqual(words_of(roof.merge("a", "b")), ["ann12"])

    def test_words_are_cut_to_8_signs(self):
        roof = with_people(["abcdefgh"], ["abcdefgh"])
        self.assertEqual(words_of(roof.merge("a", "b")), ["abcdefg2"])
        roof = with_people(["abcdefg"], ["abcdefg"])
        self.assertEqual(words_of(roof.merge("a", "b")), ["abcdefg2"])
        roof = with_people(["abcdef"], ["abcdef"])
        self.assertEqual(words_of(roof.merge("a", "b")), ["abcdef2"])

    def test_words_are_cut_for_numbers_of_two_figures(self):
        taken = [f"abcdefg{number}" for number in range(2, 10)]
        roof = with_people(["abcdefgh"], ["abcdefgh"] + taken)
        self.assertEqual(words_of(roof.merge("a", "b")), ["abcdef10"])
        roof = with_people(["abcdefgh"], ["abcdefgh", "abcdef10", "abcdef11"] + taken)
        self.assertEqual(words_of(roof.merge("a", "b")), ["abcdef12"])
        roof = with_people(["abcdefgh"], ["abcdefgh", "abcdef10"] + taken[:-1])
        self.assertEqual(words_of(roof.merge("a", "b")), ["abcdefg9"])

    def test_names_are_taken_in_the_order_of_numbers(self):
        roof = with_people(["abcdefgh", "abcdefgi", "abcdefgj"], ["abcdefgh", "abcdefgi"])
        self.assertEqual(words_of(roof.merge("a", "b")), ["abcdefg2", "abcdefg3", "abcdefgj"])
        roof = with_people(["ann", "ann2"], ["ann"])
        self.assertEqual(words_of(roof.merge("a", "b")), ["ann2", "ann22"])
        roof = with_people(["ann2", "ann"], ["ann"])
        self.assertEqual(words_of(roof.merge("a", "b")), ["ann2", "ann3"])

    def test_numbers_rise_whatever_came_first(self):
        roof = with_people(["ann"], ["bob", "cat"])
        roof.found("c")
        roof.come("one", "ann", "c")
        roof.move(201, "a")
        roof.move(300, "a", word="dan")
        self.assertEqual([who for who, name in roof.merge("a", "b")], [100, 201, 300])

    def test_ranges_stand_ahead_of_the_others_own(self):
        roof = Roof()
        for house in ("a", "b", "c", "d"):
            roof.found(house)
        roof.merge("c", "b")
        self.assertEqual(roof.ranges("b"), [300, 200])
        roof.merge("d", "a")
        self.assertEqual(roof.ranges("a"), [400, 100])
        roof.merge("b", "a")
        self.assertEqual(roof.ranges("a"), [300, 200, 400, 100])
        self.assertEqual(roof.come("one", "ann", "a"), 100)

    def test_trust_from_and_to_the_house(self):
        roof = Roof()
        for house in ("a", "b", "c", "d", "e"):
            roof.found(house)
        roof.trust("c", "a")
        roof.trust("a", "d")
        roof.trust("e", "a")
        roof.trust("e", "b")
        roof.trust("a", "e")
        roof.trust("b", "e")
        roof.trust("d", "c")
        roof.merge("a", "b")
        self.assertEqual(roof.trusted("b"), ["d", "e"])
        self.assertEqual(roof.trusted("c"), ["b"])
        self.assertEqual(roof.trusted("d"), ["c"])
        self.assertEqual(roof.trusted("e"), ["b"])

    def test_trust_between_the_two(self):
        for pairs in ([("a", "b")], [("b", "a")], [("a", "b"), ("b", "a")]):
            roof = with_people([], [])
            for house, other in pairs:
                roof.trust(house, other)
            roof.merge("a", "b")
            self.assertEqual(roof.trusted("b"), [])

    def test_trust_does_not_come_again_with_the_house(self):
        roof = with_people([], [])
        roof.found("c")
        roof.trust("c", "a")
        roof.trust("a", "c")
        roof.merge("a", "b")
        roof.found("a")
        self.assertEqual(roof.trusted("a"), [])
        self.assertEqual(roof.trusted("c"), ["b"])

    def test_refused(self):
        roof = two_houses()
        before = told(roof)
        for thing in STRANGE + ("ash", ["oak"], ("elm",)):
            refused(self, NoHouse, roof.merge, thing, "elm")
            refused(self, NoHouse, roof.merge, "oak", thing)
            refused(self, NoHouse, roof.merge, thing, thing)
        refused(self, NoHouse, roof.merge, "oak", "oak")
        self.assertEqual(told(roof), before)
        self.assertEqual(roof, two_houses())


if __name__ == "__main__":
    unittest.main()
