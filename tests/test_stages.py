"""Points 15 and 18: crowds, in which the freshest stage of each place stands."""

import inspect
import random
import unittest

from strayfiles import stages as module
from strayfiles.order import ascending
from strayfiles.stages import Stages
from tests.samples import any_values

EMPTY = Stages()
FEW = (("b", 0, 1), ("a", 2, 0), ("a", 1, 3))
PLACES = [(name, index) for name in ("a", "b", "store") for index in range(3)]


def some_stages(seed):
    """Up to nine stages, also several of one place."""
    chance = random.Random(seed)
    return [chance.choice(PLACES) + (chance.randint(0, 3),) for _ in range(chance.randint(0, 9))]


def as_dict(stages):
    """The least elapsed of each place, reckoned by hand."""
    return {place: min(one[2] for one in stages if one[:2] == place) for place in {one[:2] for one in stages}}


def crowd_of(table):
    return tuple(sorted((name, index, elapsed) for (name, index), elapsed in table.items()))


class TestCrowds(unittest.TestCase):
    def test_an_empty_crowd(self):
        for made in (EMPTY, Stages([]), Stages(()), Stages(stages=[])):
            self.assertEqual(made.crowd, ())
            self.assertEqual((len(made), list(made), repr(made)), (0, [], "Stages(())"))

    def test_ascending(self):
        made = Stages(FEW)
        self.assertEqual(made.crowd, (("a", 1, 3), ("a", 2, 0), ("b", 0, 1)))
        self.assertIsInstance(made.crowd, tuple)
        self.assertEqual(list(made), list(made.crowd))
        self.assertEqual(len(made), 3)

    def test_the_freshest_of_each_place(self):
        made = Stages([("a", 0, 2), ("a", 1, 2), ("a", 0, 1), ("b", 0, 0), ("a", 0, 3), ("b", 0, 0)])
        self.assertEqual(made.crowd, (("a", 0, 1), ("a", 1, 2), ("b", 0, 0)))
        self.assertEqual(len(made), 3)

    def test_random_crowds(self):
        for seed in range(200):
            stages = some_stages(seed)
            made = Stages(stages)
            self.assertEqual(made.crowd, crowd_of(as_dict(stages)))
            self.assertEqual(Stages(tuple(stages)), made)
            self.assertEqual(Stages(made.crowd), made)

    def test_a_large_crowd(self):
        stages = [(name, index, elapsed) for elapsed in (3, 1, 2) for index in range(9, -1, -1)
                  for name in "hgfedcba"] + [("a", 3, 0)] * 60
        self.assertEqual(len(stages), 300)
        made = Stages(stages)
        expected = [(name, index, 0 if (name, index) == ("a", 3) else 1) for name in "abcdefgh" for index in range(10)]
        self.assertEqual(made.crowd, tuple(expected))

    def test_repr(self):
        self.assertEqual(repr(Stages([("store", 0, 0)])), "Stages((('store', 0, 0),))")
        self.assertEqual(repr(Stages(FEW)), "Stages((('a', 1, 3), ('a', 2, 0), ('b', 0, 1)))")
        self.assertEqual(eval(repr(Stages(FEW))), Stages(FEW))


class TestMembership(unittest.TestCase):
    def test_as_fresh_or_fresher(self):
        made = Stages([("a", 1, 2), ("b", 0, 0)])
        for elapsed in range(4):
            self.assertIs(("a", 1, elapsed) in made, elapsed >= 2)
            self.assertIs(("b", 0, elapsed) in made, True)
            self.assertIs(("a", 0, elapsed) in made, False)
            self.assertIs(("b", 1, elapsed) in made, False)
            self.assertIs(("c", 1, elapsed) in made, False)
            self.assertIs(("a", 1, elapsed) in EMPTY, False)

    def test_within(self):
        one = Stages([("a", 1, 2), ("b", 0, 1)])
        self.assertIs(one.within(one), True)
        self.assertIs(EMPTY.within(one), True)
        self.assertIs(one.within(EMPTY), False)
        self.assertIs(EMPTY.within(EMPTY), True)
        self.assertIs(one.within(Stages([("a", 1, 1), ("b", 0, 1), ("c", 0, 0)])), True)
        self.assertIs(one.within(Stages([("a", 1, 3), ("b", 0, 1)])), False)
        self.assertIs(one.within(Stages([("a", 1, 2)])), False)


class TestOperators(unittest.TestCase):
    def test_by_hand(self):
        one = Stages([("a", 0, 1), ("b", 0, 2), ("c", 0, 0)])
        other = Stages([("b", 0, 1), ("c", 0, 3), ("d", 0, 0)])
        self.assertEqual((one | other).crowd, (("a", 0, 1), ("b", 0, 1), ("c", 0, 0), ("d", 0, 0)))
        self.assertEqual((one & other).crowd, (("b", 0, 2), ("c", 0, 3)))
        self.assertEqual((one - other).crowd, (("a", 0, 1), ("c", 0, 0)))
        self.assertEqual((other - one).crowd, (("b", 0, 1), ("d", 0, 0)))
        self.assertEqual((one - one).crowd, ())
        self.assertEqual((one & EMPTY, one | EMPTY, one - EMPTY, EMPTY - one), (EMPTY, one, one, EMPTY))

    def test_random_pairs(self):
        for seed in range(300):
            first, second = some_stages(seed), some_stages(seed + 10000)
            one, other = Stages(first), Stages(second)
            low, high = as_dict(first), as_dict(second)
            both = {place: max(low[place], high[place]) for place in low if place in high}
            rest = {place: low[place] for place in low if not (place in high and high[place] <= low[place])}
            self.assertEqual((one | other).crowd, crowd_of(as_dict(first + second)))
            self.assertEqual((one & other).crowd, crowd_of(both))
            self.assertEqual((one - other).crowd, crowd_of(rest))
            self.assertIs(one.within(other), not rest)
            self.assertEqual((one.crowd, other.crowd), (crowd_of(low), crowd_of(high)))
            self.assertTrue(one.within(one | other) and (one & other).within(one) and (one & other).within(other))

    def test_adding_in_place(self):
        one = Stages([("a", 0, 1)])
        same, other = one, Stages([("a", 0, 0), ("b", 0, 2)])
        one |= other
        self.assertIs(one, same)
        self.assertEqual(one.crowd, (("a", 0, 0), ("b", 0, 2)))
        self.assertEqual(other.crowd, (("a", 0, 0), ("b", 0, 2)))
        one |= Stages([("c", 0, 0)])
        self.assertEqual(len(other), 2)
        one |= one
        self.assertEqual(len(one), 3)

    def test_new_objects(self):
        one, other = Stages([("a", 0, 1)]), Stages([("b", 0, 1)])
        for made in (one | other, one | EMPTY, one & one, one - other):
            self.assertIsNot(made, one)
            before = one.crowd
            made |= Stages([("z", 0, 0)])
            self.assertEqual(one.crowd, before)
        self.assertEqual(other.crowd, (("b", 0, 1),))

    def test_other_operands_are_refused(self):
        one = Stages(FEW)
        for other in (FEW, list(FEW), None, 1, "a", {}):
            for wrong in (lambda: one | other, lambda: one & other, lambda: one - other):
                self.assertRaises(TypeError, wrong)
            with self.assertRaises(TypeError):
                one |= other
            self.assertEqual(one, Stages(FEW))


class TestEquality(unittest.TestCase):
    def test_equal_crowds(self):
        self.assertEqual(Stages([("a", 0, 1), ("a", 0, 2)]), Stages([("a", 0, 1)]))
        self.assertEqual(Stages(FEW), Stages(FEW[::-1]))
        for other in (FEW[:2], FEW + (("c", 0, 0),), FEW + (("b", 0, 0),), ()):
            self.assertIs(Stages(FEW) == Stages(other), False)
            self.assertIs(Stages(FEW) != Stages(other), True)

    def test_equal_to_nothing_of_another_class(self):
        for made in (EMPTY, Stages(FEW)):
            for other in any_values() + [made.crowd, list(made), repr(made), Stages]:
                self.assertIs(made == other, False)
                self.assertIs(other == made, False)


class TestNewThings(unittest.TestCase):
    def test_arguments_are_copied(self):
        stages = [("a", 0, 1), ("b", 0, 0)]
        made, other = Stages(stages), Stages(stages)
        stages.append(("c", 0, 0))
        stages[0] = ("a", 0, 0)
        self.assertEqual(made.crowd, (("a", 0, 1), ("b", 0, 0)))
        made |= Stages([("d", 0, 0)])
        self.assertEqual(len(other), 2)
        self.assertEqual(stages, [("a", 0, 0), ("b", 0, 0), ("c", 0, 0)])

    def test_results_are_new(self):
        made = Stages(FEW)
        list(made).clear()
        self.assertEqual(len(made), 3)


class TestInterface(unittest.TestCase):
    def test_members_stand_in_the_class_itself(self):
        for name in ("__init__", "crowd", "__len__", "__iter__", "__contains__", "__or__", "__and__", "__sub__",
                     "__ior__", "within", "__eq__", "__repr__"):
            self.assertIn(name, vars(Stages))
        self.assertIsInstance(vars(Stages)["crowd"], property)
        self.assertEqual(str(inspect.signature(Stages)), "(stages=())")
        self.assertEqual(Stages.__module__, "strayfiles.stages")
        self.assertIs(module.Stages, Stages)


class TestOrder(unittest.TestCase):
    def test_ascending(self):
        for seed in range(100):
            things = some_stages(seed)
            before = list(things)
            self.assertEqual(ascending(things), sorted(set(things)))
            self.assertEqual(ascending(tuple(things)), sorted(set(things)))
            self.assertEqual(things, before)
        self.assertEqual(ascending(["b", "a", "b", "ab", ""]), ["", "a", "ab", "b"])

    def test_a_new_list(self):
        for things in ([], [1], [2, 1]):
            made = ascending(things)
            made.append(0)
            self.assertEqual(len(made), len(things) + 1)


if __name__ == "__main__":
    unittest.main()
