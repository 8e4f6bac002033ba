"""Point 28: events, when they can happen, and what a content would show after them."""

import random
import unittest

from strayfiles.books import Book
from strayfiles.errors import BadEvent
from strayfiles.handlers import Hand, Reader, Sweep
from strayfiles.states import first_state
from strayfiles.world import World
from tests.samples import OWN, STORE, any_values, random_book

# Statement 1 of the hand reads an age.
AGED = Book(Hand("a", "put", "strike if old", "done", span=2), Hand("late", "row", "drop", begins="open"),
            Sweep("broom", "touch", "clear", alone=True), Sweep("mop", "clear"), Reader("eye", "read"), age=1, keep=1)


def all_of(world, contents=("c", "d")):
    """Everything that a world tells of these contents."""
    told = [world.now, list(world.rows), [(content, world.files[content]) for content in world.files]]
    for content in contents:
        told.append([world.mark_of(content), world.copy_of(content), world.rows.standings(content),
                     [(run, world.stands(run)) for run in world.running(content)], world.shown(content)])
    return told


def begun(book=AGED, clock=True):
    """A world in which the run 0 of a hand has put a file at "c", and the run 1 stands at "d"."""
    world = World(book, clock=clock)
    world.begin("a", "c", 4)
    world.step(0)
    world.begin("a", "d", 4)
    return world


def with_two_runs():
    """The same with a run 2 at "c", while the run 1 is over."""
    world = begun()
    world.begin("a", "c", 5)
    world.fall(1)
    return world


class EventsTestCase(unittest.TestCase):
    def assert_bad(self, at, events, make=begun, content="c"):
        """The event at this index is none; those before it have happened, and nothing else has."""
        world, expected = make(), make()
        expected.happen(content, events[:at])
        with self.assertRaises(BadEvent) as seen:
            world.happen(content, events)
        self.assertEqual(vars(seen.exception), {"at": at})
        self.assertEqual(all_of(world), all_of(expected))
        untouched = make()
        with self.assertRaises(BadEvent) as seen:
            untouched.would(content, events)
        self.assertEqual(vars(seen.exception), {"at": at})
        self.assertEqual(all_of(untouched), all_of(make()))


class TestHappen(EventsTestCase):
    def test_nothing(self):
        for events in ([], ()):
            world = begun()
            self.assertIsNone(world.happen("c", events))
            self.assertEqual(all_of(world), all_of(begun()))

    def test_like_the_methods(self):
        world, other = begun(), begun()
        world.happen("c", [("tick",), ("step", 0, "old"), ("step", 0, ""), ("copy",), ("begin", "eye", -1),
                           ("begin", "broom", -1), ("fall", 2)])
        other.tick()
        other.step(0, "old")
        other.step(0)
        other.copy()
        other.begin("eye", "c")
        other.begin("broom", "c")
        other.fall(2)
        self.assertEqual(all_of(world), all_of(other))
        self.assertEqual((world.running("c"), world.rows.standings("c")), ([3], {4: "done"}))

    def test_each_kind(self):
        world = World(AGED.with_age(2))
        world.happen(events=[("begin", "a", 3), ("step", 0, "")], content="c")
        self.assertEqual((world.stands(0), world.files["c"]), (("a", "c", 3, 1, 0), 0))
        world.happen("c", (("tick",), ("tick",), ("tick",)))
        self.assertEqual((world.running("c"), world.files["c"], world.now), ([], 3, 3))
        world.happen("c", [("begin", "a", 10 ** 9), ("step", 1, "old"), ("step", 1, ""), ("step", 1, "young")])
        self.assertEqual(world.rows.standings("c"), {10 ** 9: "done"})
        world.happen("c", [("copy",), ("begin", "eye", -1), ("begin", "broom", -1), ("fall", 3), ("begin", "mop", -1)])
        self.assertEqual((world.copy_of("c"), world.running("c")), (1, [2, 4]))

    def test_numbers_of_runs_are_those_of_the_world(self):
        world = begun()
        world.happen("c", [("begin", "mop", -1), ("fall", 2), ("begin", "mop", -1), ("step", 3, ""), ("fall", 0)])
        self.assertEqual((world.running("c"), world.running("d"), world.begin("mop", "e")), ([], [1], 4))

    def test_a_tick_and_a_copy_concern_the_whole_world(self):
        world = World(AGED)
        world.happen("d", [("begin", "a", 1), ("step", 0, ""), ("step", 0, ""), ("step", 0, "")])
        world.happen("c", [("copy",), ("tick",)])
        self.assertEqual((world.files["d"], world.copy_of("d"), world.now), (1, 0, 1))

    def test_a_copy_that_changes_nothing(self):
        for book in (AGED, Book.read(STORE)):
            world = World(book)
            world.happen("c", [("copy",), ("copy",)])
            self.assertEqual((world.copy_of("c"), world.shown("c")), (None, first_state(book)))

    def test_readings_that_do_not_matter(self):
        for reading in ("", "old", "young"):
            world = World(AGED)
            world.happen("c", [("begin", "a", 1), ("step", 0, reading), ("step", 0, ""), ("step", 0, reading)])
            self.assertEqual((world.running("c"), world.rows.standings("c")), ([], {1: "done"}))

    def test_without_a_clock(self):
        world = begun(clock=False)
        world.happen("c", [("step", 0, "old"), ("begin", "a", 1), ("step", 2, ""), ("step", 2, "young"),
                           ("step", 0, "young"), ("fall", 2)])
        self.assertEqual((world.rows.standings("c"), world.running("c")), ({4: "done"}, []))


class TestBadEvents(EventsTestCase):
    def test_any_values(self):
        for value in any_values() + ["tick", ["copy"], ("tick", 0), ("copy", ()), ("Tick",), ("ticks",), ("tock",),
                                     (0,), ("fall",), ("step",), ("begin",), ("step", 0), ("begin", "a"),
                                     ("fall", 0, 0), ("step", 0, "", ""), ("begin", "a", 0, 0), ("tick", "", ""),
                                     ("quit",), ("", 0)]:
            self.assert_bad(0, [value])
            self.assert_bad(1, (("tick",), value, ("tick",)))

    def test_parts_of_other_kinds(self):
        for value in any_values():
            if value == 0 and value is not False:
                continue
            self.assert_bad(0, [("fall", value)])
            self.assert_bad(0, [("step", value, "")])
            self.assert_bad(0, [("begin", value, 0)])
            self.assert_bad(0, [(value, 0, "")])
            if value != "":
                self.assert_bad(0, [("step", 0, value)])
            if value not in (1, 2, 7) or value is True:
                self.assert_bad(0, [("begin", "a", value)])
            if value != -1:
                self.assert_bad(0, [("begin", "mop", value)])

    def test_lists_and_truth_values(self):
        for event in (["tick"], ["fall", 1], ["step", 1, ""], ["begin", "a", 1], ("fall", True), ("step", True, ""),
                      ("begin", "a", True), ("begin", "a", False), ("fall", False), ("step", False, ""), ("fall", [1]),
                      ("fall", "1"), ("step", (1,), ""), (("fall", 1),), (("fall",), 1)):
            self.assert_bad(0, [event], with_two_runs)

    def test_readings(self):
        for reading in ("x", "Old", "ripe", "unripe", " ", "old ", None, 0, ["old"], ("old",)):
            # Also where a reading does not matter.
            for events in ([("step", 0, reading)], [("begin", "mop", -1), ("step", 2, reading)]):
                self.assert_bad(len(events) - 1, events)
        # The age is 0, the age of the book 1, its off 0.
        self.assert_bad(0, [("step", 0, "old")])
        self.assert_bad(1, [("tick",), ("step", 0, "young")])
        self.assert_bad(2, [("step", 0, "young"), ("step", 0, "young"), ("step", 0, "young")])

    def test_runs(self):
        for run in (1, 2, 3, -1, 10 ** 20):
            self.assert_bad(0, [("fall", run)])
            self.assert_bad(0, [("step", run, "")])
        self.assert_bad(1, [("fall", 0), ("fall", 0)])
        self.assert_bad(1, [("fall", 0), ("step", 0, "")])
        self.assert_bad(2, [("step", 0, ""), ("step", 0, ""), ("step", 0, "")])
        self.assert_bad(3, [("tick",)] * 3 + [("step", 0, "")])
        self.assert_bad(3, [("tick",)] * 3 + [("fall", 0)])
        self.assert_bad(2, [("begin", "mop", -1), ("step", 2, ""), ("step", 2, "")])
        self.assert_bad(2, [("begin", "mop", -1), ("fall", 2), ("fall", 3), ("tick",)])

    def test_a_run_at_another_content(self):
        self.assert_bad(0, [("step", 0, "")], content="d")
        self.assert_bad(1, [("step", 1, ""), ("fall", 0)], content="d")
        self.assert_bad(0, [("step", 1, "")], content="c")

    def test_rows(self):
        for row in (-1, -2, 10 ** 9 + 1, 10 ** 20):
            self.assert_bad(0, [("begin", "a", row)])
        for row in (0, 1, -2, 10 ** 9):
            for name in ("mop", "broom", "eye"):
                self.assert_bad(0, [("begin", name, row)])

    def test_beginnings(self):
        self.assert_bad(0, [("begin", "none", 0)])
        self.assert_bad(0, [("begin", "b", -1)])
        # At the row stands a run.
        self.assert_bad(0, [("begin", "a", 4)])
        self.assert_bad(1, [("fall", 0), ("begin", "late", 4)])
        self.assert_bad(2, [("begin", "broom", -1), ("begin", "mop", -1), ("begin", "broom", -1)])
        self.assert_bad(0, [("begin", "eye", -1)])
        self.assert_bad(3, [("step", 0, ""), ("step", 0, ""), ("begin", "eye", -1), ("begin", "late", 4)])

    def test_own_names(self):
        def make():
            return World(Book.read(OWN))
        for row in (1, 10 ** 9, -1):
            self.assert_bad(0, [("begin", "make", row)], make)
        self.assert_bad(1, [("begin", "make", 0), ("begin", "make", 0)], make)
        self.assert_bad(0, [("begin", "wipe", 0)], make)

    def test_no_ticks_and_copies_without_a_clock(self):
        for event in (("tick",), ("copy",), ("step", 0, "")):
            world = begun(clock=False)
            with self.assertRaises(BadEvent) as seen:
                world.happen("c", [("begin", "mop", -1), ("step", 2, ""), event, ("fall", 0)])
            self.assertEqual(seen.exception.at, 2)
            self.assertEqual((world.running("c"), world.stands(0)), ([0], ("a", "c", 4, 1, 0)))


class TestWould(EventsTestCase):
    def test_by_hand(self):
        world = begun()
        self.assertEqual(world.would("c", []), world.shown("c"))
        crowd = (("a", 0, 0), ("eye", 0, 0), ("mop", 0, 0))
        events = (("step", 0, ""), ("step", 0, ""), ("copy",), ("copy",), ("tick",))
        self.assertEqual(world.would(events=events, content="c"), (1, -1, 0, (), crowd, (("done", "", 0, 0),)))
        events = [("tick",), ("begin", "a", 9), ("step", 2, ""), ("tick",), ("fall", 2)]
        self.assertEqual(world.would("c", events), (1, -1, -1, (), (("a", 0, 0), ("a", 1, 2), ("mop", 0, 0)), ()))
        self.assertEqual(all_of(world), all_of(begun()))

    def test_of_a_content_that_was_never_mentioned(self):
        world = begun()
        self.assertEqual(world.would("e", []), first_state(AGED))
        self.assertEqual(world.would("e", [("begin", "broom", -1)])[3], ("broom", 0, 0))
        # The numbers go on from those of the whole world.
        self.assertEqual(world.would("e", [("begin", "broom", -1), ("step", 2, "")])[3], ("broom", 1, 0))
        self.assert_bad(1, [("begin", "broom", -1), ("step", 0, "")], content="e")

    def test_random_events(self):
        for seed in range(150):
            book = random_book(seed)
            chance = random.Random(seed)
            world = World(book)
            for _ in range(12):
                events = [random_event(chance, book) for _ in range(chance.randint(0, 4))]
                before = all_of(world)
                try:
                    would, bad = world.would("c", events), None
                except BadEvent as wrong:
                    would, bad = None, wrong.at
                self.assertEqual(all_of(world), before)
                try:
                    world.happen("c", events)
                    self.assertIsNone(bad)
                    self.assertEqual(world.shown("c"), would)
                except BadEvent as wrong:
                    self.assertEqual(wrong.at, bad)


def random_event(chance, book):
    """An event that can perhaps happen."""
    kind = chance.choice(["begin", "begin", "step", "step", "step", "fall", "tick", "copy"])
    if kind == "begin":
        handler = chance.choice(book.handlers)
        row = 0 if book.names == "own" else chance.randint(0, 2)
        return "begin", handler.name, row if handler.kind == "hand" else -1
    if kind == "step":
        return "step", chance.randint(0, 3), chance.choice(["", "", "old", "young"])
    return ("fall", chance.randint(0, 3)) if kind == "fall" else (kind,)


if __name__ == "__main__":
    unittest.main()
