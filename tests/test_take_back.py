"""[22] take_back, of each deed and of long rows of deeds; [51] the deeds that a roof keeps."""

import random
import unittest

from joinedfolk.errors import Nothing, RoofError
from joinedfolk.roofs import Roof
from telling import a_deed, do, refused, told, two_houses


def played(rows):
    roof = Roof()
    for name, *things in rows:
        do(roof, name, things)
    return roof


class TakeBackTest(unittest.TestCase):
    def test_each_deed(self):
        deeds = (
            ("found", "ash"), ("come", "one", "new", "oak"), ("come", "group", "new", "elm"), ("go", 100), ("go", 102),
            ("go", 201), ("put_in", 101, 102), ("put_in", 201, 102), ("take_out", 100, 102), ("take_out", 102, 201),
            ("call", 100, "bea"), ("move", 100, "elm", "bea"), ("move", 101, "elm", None), ("move", 102, "elm", None),
            ("merge", "oak", "elm"), ("merge", "elm", "oak"), ("trust", "elm", "oak"), ("mistrust", "oak", "elm"),
        )
        for name, *things in deeds:
            roof = two_houses()
            before = told(roof)
            do(roof, name, things)
            self.assertNotEqual(roof, two_houses(), name)
            self.assertIsNone(roof.take_back())
            self.assertEqual(told(roof), before, name)
            self.assertEqual(roof, two_houses(), name)

    def test_numbers_given_are_taken_back_too(self):
        roof = Roof()
        roof.found("oak")
        self.assertEqual(roof.come("one", "ann", "oak"), 100)
        roof.take_back()
        self.assertEqual(roof.come("one", "bob", "oak"), 100)
        self.assertEqual(roof.name(100), ("one", "bob", "oak"))

    def test_ranges_given_are_taken_back_too(self):
        roof = Roof()
        roof.found("oak")
        for place in range(100):
            roof.come("one", f"p{place}", "oak")
        self.assertEqual(roof.come("one", "more", "oak"), 200)
        roof.take_back()
        self.assertEqual(roof.ranges("oak"), [100])
        roof.found("elm")
        self.assertEqual(roof.ranges("elm"), [200])
        self.assertEqual(roof.come("one", "more", "oak"), 300)

    def test_a_house_is_taken_back_with_its_range(self):
        roof = Roof()
        roof.found("oak")
        roof.take_back()
        self.assertEqual(roof, Roof())
        roof.found("elm")
        self.assertEqual(roof.ranges("elm"), [100])

    def test_nothing_at_last(self):
        roof = two_houses()
        for time in range(roof.time(), 0, -1):
            self.assertEqual(roof.time(), time)
            roof.take_back()
        self.assertEqual(roof.time(), 0)
        self.assertEqual(roof, Roof())
        refused(self, Nothing, roof.take_back)
        self.assertEqual(roof.time(), 0)
        self.assertEqual(told(roof), told(Roof()))
        refused(self, Nothing, Roof().take_back)

    def test_a_refused_deed_is_not_taken_back(self):
        roof = Roof()
        roof.found("oak")
        with self.assertRaises(RoofError):
            roof.found("oak")
        roof.take_back()
        self.assertEqual(roof.houses(), [])

    def test_a_deed_that_changes_nothing_is_taken_back_alone(self):
        roof = two_houses()
        roof.put_in(100, 102)
        roof.take_back()
        self.assertEqual(roof.members(102), [100, 200])

    def test_deeds_are_kept_as_they_were_handed_in(self):
        roof = Roof()
        rows = [
            ("found", "oak"), ("found", "elm"), ("come", "one", "ann", "oak"), ("come", "group", "g", "elm"),
            ("put_in", 100, 200), ("put_in", 100, 200), ("take_out", 100, 200), ("call", 100, "bea"),
            ("move", 100, "elm", None), ("move", 100, "oak", "cat"), ("trust", "oak", "elm"),
            ("mistrust", "oak", "elm"), ("merge", "oak", "elm"), ("go", 100),
        ]
        for name, *things in rows:
            do(roof, name, things)
        self.assertEqual(roof.deeds, rows)
        roof.take_back()
        with self.assertRaises(RoofError):
            roof.found("elm")
        self.assertEqual(roof.deeds, rows[:-1])
        self.assertEqual(played(roof.deeds), roof)

    def test_long_rows_of_deeds(self):
        for seed in range(25):
            with self.subTest(seed=seed):
                self.walk(random.Random(seed))

    def walk(self, chance):
        """Do many deeds; then all of them are taken back, one by one."""
        roof, times, rows, given = Roof(), [], [], []
        while len(rows) < 120:
            before = told(roof)
            name, things = a_deed(chance, roof)
            try:
                answer = do(roof, name, things)
            except RoofError:
                self.assertEqual(told(roof), before)
                continue
            self.assertEqual(roof.time(), len(rows) + 1)
            times.append(before)
            rows.append((name, *things))
            if name == "come":
                given.append(answer)
            self.check(roof)
        self.assertEqual(len(given), len(set(given)))
        self.assertEqual(roof, played(rows))
        while rows:
            self.assertEqual(roof.deeds, rows)
            roof.take_back()
            rows.pop()
            self.assertEqual(told(roof), times.pop())
            self.assertEqual(roof, played(rows))

    def check(self, roof):
        """What holds of every roof."""
        now = told(roof)
        numbers = [who for who, name in now["names"]]
        names = [name for who, name in now["names"]]
        self.assertEqual(len(set(names)), len(names))
        self.assertEqual(now["numbers"], [(name, who) for who, name in now["names"]])
        for group, members in now["members"]:
            self.assertTrue(set(members) <= set(numbers))
        for house, trusted in now["trusted"]:
            self.assertTrue(set(trusted) <= set(roof.houses()) - {house})
        starts = [first for house, ranges in now["ranges"] for first in ranges]
        self.assertEqual(sorted(starts), list(range(100, 100 + 100 * len(starts), 100)))


if __name__ == "__main__":
    unittest.main()
