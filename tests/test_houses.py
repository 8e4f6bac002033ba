"""Point 10: what the file house and the row house hold of each content."""

import inspect
import random
import unittest

from strayfiles import houses
from strayfiles.errors import NoFile, NoRow
from strayfiles.houses import FileHouse, RowHouse


class TestFileHouse(unittest.TestCase):
    def assert_no_file(self, house, content):
        with self.assertRaises(NoFile) as seen:
            house[content]
        self.assertIs(type(seen.exception), NoFile)
        self.assertEqual(seen.exception.content, content)
        self.assertIs(content in house, False)

    def test_an_empty_house(self):
        house = FileHouse()
        self.assertEqual(len(house), 0)
        self.assertEqual(list(house), [])
        self.assert_no_file(house, "a")
        self.assertIsNone(house.take("a"))
        self.assertIsNone(house.tick())
        self.assertEqual(list(house), [])

    def test_putting_and_taking(self):
        house = FileHouse()
        house["b"] = 0
        house["a"] = 7
        self.assertEqual((house["a"], house["b"], len(house)), (7, 0, 2))
        self.assertIs("a" in house, True)
        self.assert_no_file(house, "c")
        house["b"] = 3
        self.assertEqual((house["b"], len(house)), (3, 2))
        house.take("b")
        self.assert_no_file(house, "b")
        self.assertEqual(list(house), ["a"])
        house.take(content="b")
        self.assertEqual(list(house), ["a"])
        house["b"] = 1
        self.assertEqual(list(house), ["a", "b"])

    def test_a_tick(self):
        house = FileHouse()
        house["a"] = 0
        house["b"] = 10 ** 20
        house.tick()
        house.tick()
        house["c"] = 0
        house.tick()
        self.assertEqual([house[content] for content in house], [3, 10 ** 20 + 3, 1])

    def test_contents_come_ascending(self):
        contents = ["store", "a", "ab", "aa", "b", "zzzzzzzz", "z", "m"]
        for seed in range(20):
            random.Random(seed).shuffle(contents)
            house = FileHouse()
            for content in contents:
                house[content] = 1
            self.assertEqual(list(house), sorted(contents))
            house.take(contents[3])
            house.tick()
            self.assertEqual(list(house), sorted(contents[:3] + contents[4:]))

    def test_houses_share_nothing(self):
        one, other = FileHouse(), FileHouse()
        one["a"] = 1
        self.assertEqual(len(other), 0)

    def test_changes_while_it_is_iterated_over(self):
        house = FileHouse()
        for content in "abcd":
            house[content] = 0
        for content in house:
            house.take(content)
        self.assertEqual(list(house), [])

    def test_many_files(self):
        house = FileHouse()
        contents = [first + second for first in "zyxwvutsrq" for second in "jihgfedcba"]
        for content in contents:
            house[content] = 2
        self.assertEqual(len(house), 100)
        self.assertEqual(list(house), sorted(contents))


class TestRowHouse(unittest.TestCase):
    def assert_no_row(self, house, content, row):
        with self.assertRaises(NoRow) as seen:
            house[content, row]
        self.assertIs(type(seen.exception), NoRow)
        self.assertEqual((seen.exception.content, seen.exception.row), (content, row))
        self.assertIs((content, row) in house, False)

    def test_an_empty_house(self):
        house = RowHouse()
        self.assertEqual(len(house), 0)
        self.assertEqual(list(house), [])
        self.assert_no_row(house, "a", 0)
        self.assertIsNone(house.take("a", 0))
        self.assertEqual(house.standings("a"), {})
        self.assertIs(house.is_named("a"), False)

    def test_putting_and_taking(self):
        house = RowHouse()
        house["a", 0] = "open"
        house["a", 10 ** 9] = "done"
        house["b", 0] = "open"
        self.assertEqual((house["a", 0], house["a", 10 ** 9], house["b", 0]), ("open", "done", "open"))
        self.assertEqual(len(house), 3)
        self.assertIs(("a", 0) in house, True)
        self.assert_no_row(house, "a", 1)
        self.assert_no_row(house, "b", 10 ** 9)
        self.assert_no_row(house, "c", 0)
        house["a", 0] = "done"
        self.assertEqual((house["a", 0], len(house)), ("done", 3))
        house.take("a", 0)
        self.assert_no_row(house, "a", 0)
        house.take(row=0, content="a")
        self.assertEqual(list(house), [("a", 10 ** 9), ("b", 0)])

    def test_rows_come_ascending(self):
        pairs = [(content, row) for content in ("b", "a", "ab", "store") for row in (10, 9, 2, 0, 10 ** 9)]
        for seed in range(20):
            random.Random(seed).shuffle(pairs)
            house = RowHouse()
            for content, row in pairs:
                house[content, row] = "open"
            self.assertEqual(list(house), sorted(pairs))
            self.assertEqual(len(house), 20)
            self.assertEqual(list(house.standings("a")), [0, 2, 9, 10, 10 ** 9])
            house.take(*pairs[7])
            self.assertEqual(list(house), sorted(pairs[:7] + pairs[8:]))

    def test_standings(self):
        house = RowHouse()
        house["a", 5] = "done"
        house["b", 1] = "done"
        house["a", 3] = "open"
        self.assertEqual(house.standings("a"), {3: "open", 5: "done"})
        self.assertEqual(list(house.standings("a")), [3, 5])
        self.assertEqual(house.standings(content="b"), {1: "done"})
        self.assertEqual(house.standings("c"), {})

    def test_standings_are_new(self):
        house = RowHouse()
        house["a", 5] = "done"
        standings = house.standings("a")
        standings[5] = "open"
        standings[6] = "open"
        self.assertEqual(house.standings("a"), {5: "done"})
        house["a", 7] = "open"
        self.assertEqual(standings, {5: "open", 6: "open"})

    def test_is_named(self):
        house = RowHouse()
        house["a", 0] = "open"
        self.assertIs(house.is_named("a"), False)
        house["b", 0] = "done"
        self.assertIs(house.is_named("a"), False)
        self.assertIs(house.is_named("b"), True)
        house["a", 9] = "done"
        self.assertIs(house.is_named("a"), True)
        house["a", 9] = "open"
        self.assertIs(house.is_named("a"), False)
        house.take("b", 0)
        self.assertIs(house.is_named("b"), False)

    def test_houses_share_nothing(self):
        one, other = RowHouse(), RowHouse()
        one["a", 1] = "open"
        self.assertEqual(len(other), 0)

    def test_changes_while_it_is_iterated_over(self):
        house = RowHouse()
        for row in range(5):
            house["a", row] = "open"
        for content, row in house:
            house.take(content, row)
        self.assertEqual(list(house), [])


class TestInterface(unittest.TestCase):
    def test_methods_stand_in_the_class_itself(self):
        common = ["__init__", "__getitem__", "__setitem__", "__contains__", "__len__", "__iter__", "take"]
        for made, names in ((FileHouse, ["tick"]), (RowHouse, ["standings", "is_named"])):
            for name in common + names:
                self.assertIn(name, vars(made))
            self.assertEqual(made.__module__, "strayfiles.houses")
            self.assertIs(getattr(houses, made.__name__), made)

    def test_parameters(self):
        self.assertEqual(list(inspect.signature(FileHouse.take).parameters), ["self", "content"])
        self.assertEqual(list(inspect.signature(RowHouse.take).parameters), ["self", "content", "row"])
        self.assertEqual(list(inspect.signature(RowHouse.standings).parameters), ["self", "content"])
        self.assertEqual(list(inspect.signature(RowHouse.is_named).parameters), ["self", "content"])


if __name__ == "__main__":
    unittest.main()
