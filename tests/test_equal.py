"""[22] `roof == other`: what makes roofs equal, and each thing by which they differ."""

import unittest

from joinedfolk.roofs import Roof
from telling import STRANGE, two_houses


class EqualTest(unittest.TestCase):
    def differ(self, roof, other):
        self.assertFalse(roof == other)
        self.assertFalse(other == roof)
        self.assertTrue(roof != other)

    def same(self, roof, other):
        self.assertTrue(roof == other)
        self.assertTrue(other == roof)
        self.assertFalse(roof != other)

    def test_equal_roofs(self):
        self.same(Roof(), Roof())
        self.same(two_houses(), two_houses())
        roof = two_houses()
        self.same(roof, roof)

    def test_time_and_the_way_there_do_not_count(self):
        roof = two_houses()
        roof.put_in(101, 102)
        roof.take_out(101, 102)
        roof.call(100, "bea")
        roof.call(100, "ann")
        roof.move(101, "elm")
        roof.move(101, "oak")
        roof.trust("elm", "oak")
        roof.mistrust("elm", "oak")
        self.same(roof, two_houses())

    def test_order_does_not_count(self):
        roof, other = Roof(), Roof()
        for each in (roof, other):
            for house in ("a", "b", "c"):
                each.found(house)
            each.come("group", "g", "a")
            each.come("one", "ann", "b")
        for house in ("b", "c"):
            roof.trust("a", house)
        for house in ("c", "b"):
            other.trust("a", house)
        for who in (100, 200):
            roof.put_in(who, 100)
        for who in (200, 100):
            other.put_in(who, 100)
        self.same(roof, other)

    def test_each_thing_by_which_roofs_differ(self):
        deeds = (
            lambda roof: roof.found("ash"),
            lambda roof: roof.come("one", "new", "oak"),
            lambda roof: roof.come("group", "new", "oak"),
            lambda roof: roof.go(101),
            lambda roof: roof.go(201),
            lambda roof: roof.put_in(101, 102),
            lambda roof: roof.take_out(100, 102),
            lambda roof: roof.call(101, "bea"),
            lambda roof: roof.call(102, "gang"),
            lambda roof: roof.move(101, "elm"),
            lambda roof: roof.trust("elm", "oak"),
            lambda roof: roof.mistrust("oak", "elm"),
            lambda roof: roof.merge("elm", "oak"),
        )
        for place, deed in enumerate(deeds):
            with self.subTest(place=place):
                roof = two_houses()
                deed(roof)
                self.differ(roof, two_houses())
                other = two_houses()
                deed(other)
                self.same(roof, other)

    def test_houses_by_their_words(self):
        roof, other = Roof(), Roof()
        roof.found("oak")
        other.found("elm")
        self.differ(roof, other)

    def test_kinds(self):
        roof, other = Roof(), Roof()
        for each, kind in ((roof, "one"), (other, "group")):
            each.found("oak")
            each.come(kind, "ann", "oak")
        self.differ(roof, other)

    def test_ranges_in_another_order(self):
        roof, other = Roof(), Roof()
        for each in (roof, other):
            for house in ("a", "b", "c"):
                each.found(house)
        roof.merge("a", "c")
        roof.merge("b", "c")
        other.merge("b", "c")
        other.merge("a", "c")
        self.assertEqual((roof.ranges("c"), other.ranges("c")), ([200, 100, 300], [100, 200, 300]))
        self.differ(roof, other)

    def test_numbers_ever_given_count(self):
        roof = two_houses()
        roof.go(roof.come("one", "new", "oak"))
        self.differ(roof, two_houses())
        other = two_houses()
        other.go(other.come("group", "else", "oak"))
        self.same(roof, other)
        third = two_houses()
        third.go(third.come("one", "new", "elm"))
        self.differ(roof, third)

    def test_numbers_given_in_ranges_that_are_not_the_latest_count(self):
        roof, other = Roof(), Roof()
        for each in (roof, other):
            each.found("a")
            each.found("b")
        roof.go(roof.come("one", "ann", "a"))
        for each in (roof, other):
            each.merge("a", "b")
        self.differ(roof, other)

    def test_a_house_that_is_no_more_leaves_nothing_behind(self):
        roof, other = Roof(), Roof()
        for each, house in ((roof, "a"), (other, "c")):
            each.found(house)
            each.found("b")
            each.trust(house, "b")
            each.trust("b", house)
            each.merge(house, "b")
        self.same(roof, other)

    def test_what_is_no_roof(self):
        for thing in STRANGE + (100, "oak", Roof, [Roof()], (Roof(),)):
            self.differ(Roof(), thing)
            self.differ(two_houses(), thing)
        self.assertIs(Roof() == None, False)
        self.assertIs(Roof() == Roof(), True)


if __name__ == "__main__":
    unittest.main()
