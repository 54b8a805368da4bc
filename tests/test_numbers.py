"""[11] ranges and numbers: which one is given, and none of them twice."""

import unittest

from joinedfolk.errors import Taken
from joinedfolk.roofs import Roof
from telling import refused


def fill(roof, house, many, ahead="p"):
    """That many people come to be in a house; told are their numbers."""
    return [roof.come("one", f"{ahead}{place}", house) for place in range(many)]


class NumbersTest(unittest.TestCase):
    def test_ranges_are_hundreds_in_the_order_of_their_coming(self):
        roof = Roof()
        for house in ("oak", "elm", "ash"):
            roof.found(house)
        self.assertEqual([roof.ranges(house) for house in ("oak", "elm", "ash")], [[100], [200], [300]])

    def test_people_and_groups_get_the_least_numbers(self):
        roof = Roof()
        roof.found("oak")
        roof.found("elm")
        self.assertEqual(roof.come("one", "ann", "oak"), 100)
        self.assertEqual(roof.come("group", "ann", "oak"), 101)
        self.assertEqual(roof.come("one", "ann", "elm"), 200)
        self.assertEqual(roof.come("one", "bob", "oak"), 102)

    def test_the_hundredth_and_the_one_behind_it(self):
        roof = Roof()
        roof.found("oak")
        roof.found("elm")
        self.assertEqual(fill(roof, "oak", 99), list(range(100, 199)))
        self.assertEqual(roof.come("group", "last", "oak"), 199)
        self.assertEqual(roof.ranges("oak"), [100])
        self.assertEqual(roof.come("one", "next", "oak"), 300)
        self.assertEqual(roof.ranges("oak"), [100, 300])
        self.assertEqual(roof.come("one", "more", "oak"), 301)
        roof.found("ash")
        self.assertEqual(roof.ranges("ash"), [400])
        self.assertEqual(roof.ranges("elm"), [200])

    def test_a_refused_one_gets_no_number_and_no_range(self):
        roof = Roof()
        roof.found("oak")
        fill(roof, "oak", 100)
        refused(self, Taken, roof.come, "one", "p5", "oak")
        self.assertEqual(roof.ranges("oak"), [100])
        roof.found("elm")
        self.assertEqual(roof.ranges("elm"), [200])
        self.assertEqual(roof.come("one", "new", "oak"), 300)

    def test_a_number_is_not_given_again_behind_go(self):
        roof = Roof()
        roof.found("oak")
        roof.come("one", "ann", "oak")
        roof.go(100)
        self.assertEqual(roof.come("one", "ann", "oak"), 101)
        for who in fill(roof, "oak", 98):
            roof.go(who)
        self.assertEqual(roof.come("one", "bea", "oak"), 200)

    def test_a_number_is_not_given_again_behind_move(self):
        roof = Roof()
        roof.found("oak")
        roof.found("elm")
        roof.come("one", "ann", "oak")
        roof.move(100, "elm")
        self.assertEqual(roof.come("one", "ann", "oak"), 101)
        self.assertEqual(roof.come("one", "bea", "elm"), 200)
        self.assertEqual(roof.everyone("elm"), [100, 200])

    def test_behind_merge_numbers_come_from_the_other_houses_own_range(self):
        roof = Roof()
        roof.found("oak")
        roof.found("elm")
        roof.come("one", "ann", "oak")
        roof.come("one", "bob", "elm")
        roof.merge("elm", "oak")
        self.assertEqual(roof.ranges("oak"), [200, 100])
        self.assertEqual(roof.come("one", "cat", "oak"), 101)
        self.assertEqual(fill(roof, "oak", 98), list(range(102, 200)))
        self.assertEqual(roof.come("one", "dan", "oak"), 300)
        self.assertEqual(roof.ranges("oak"), [200, 100, 300])

    def test_a_house_founded_anew_gets_a_new_range(self):
        roof = Roof()
        roof.found("oak")
        roof.found("elm")
        roof.merge("oak", "elm")
        roof.found("oak")
        self.assertEqual(roof.ranges("oak"), [300])
        self.assertEqual(roof.ranges("elm"), [100, 200])
        self.assertEqual(roof.everyone("oak"), [])
        self.assertEqual(roof.trusted("oak"), [])


if __name__ == "__main__":
    unittest.main()
