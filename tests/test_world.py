"""Points 10 to 14 and 22: worlds, their runs, what statements do in them, and what a content shows."""

import inspect
import unittest

from strayfiles import world as module
from strayfiles.books import Book
from strayfiles.errors import BadPlace, Busy, NoHandler, NoRun, NotRead, NotSo, Over, Unfinished, Unnamed
from strayfiles.handlers import Hand, Reader, Sweep
from strayfiles.states import first_state
from strayfiles.times import Span
from strayfiles.world import World
from tests.samples import CONDITIONS, OWN, STORE, TEXTS, any_values

WITH = {"hand": Hand, "sweep": Sweep, "reader": Reader}
# Numbers of rows at which no test begins a run of its own.
ASIDE = 900


class WorldTestCase(unittest.TestCase):
    def assert_raised(self, error, values, act, *args, **named):
        """Raised is this very error with these fields."""
        with self.assertRaises(error) as seen:
            act(*args, **named)
        self.assertIs(type(seen.exception), error)
        self.assertEqual(list(vars(seen.exception).values()), values)


def world_with(tested, file=None, mark=None, rows=(), **fields):
    """A world at whose content "c" a file, a mark (None or their ages) and rows (number, standing) are.

    The rows are made by runs that are over; own is the row 0.
    """
    book = Book(Hand("puts", "put"), Hand("marks", "mark"), Hand("opens", "row"), Hand("dones", "done"), tested,
                **fields)
    world = World(book)
    for age in range(max(-1 if file is None else file, -1 if mark is None else mark), -1, -1):
        if file == age:
            book["puts"](world, "c", ASIDE)
        if mark == age:
            book["marks"](world, "c", ASIDE)
        if age > 0:
            world.tick()
    for row, standing in rows:
        book["opens" if standing == "open" else "dones"](world, "c", row)
    return world


def stock(world, content="c"):
    """What there is of a content: ages of file and mark, and rows."""
    age = world.files[content] if content in world.files else None
    return age, world.mark_of(content), world.rows.standings(content)


def own_rows(standing):
    return () if standing == "none" else ((0, standing),)


def tested_run(text, kind="hand", own="none", **situation):
    """A world and a run in it that stands at this statement, the second of three.

    For a reader the rows must have a done one, as it cannot begin otherwise.
    """
    before = "touch if nofile"
    begins = {"begins": own} if kind == "hand" else {}
    world = world_with(WITH[kind]("tested", before, text, before, **begins), **situation)
    run = world.begin("tested", "c")
    world.step(run)
    return world, run


class TestBegin(WorldTestCase):
    def test_numbers(self):
        world = World(Book.read(STORE))
        self.assertEqual([world.begin("store", "c"), world.begin("broom", "c"), world.begin("store", "d"),
                          world.begin(row=5, content="c", name="store")], [0, 1, 2, 3])
        self.assert_raised(Busy, [0], world.begin, "store", "c")
        self.assertEqual(world.begin("broom", "d"), 4)

    def test_where_a_run_stands_at_first(self):
        world = World(Book.read(STORE))
        world.begin("store", "c", 10 ** 9)
        world.begin("broom", "d", 7)
        self.assertEqual(world.stands(0), ("store", "c", 10 ** 9, 0, 0))
        self.assertEqual(world.stands(run=1), ("broom", "d", -1, 0, 0))

    def test_no_handler(self):
        world = World(Book.read(OWN))
        for name in ("a", "mak", "makes", "tick"):
            self.assert_raised(NoHandler, [name], world.begin, name, "c", 5)
        self.assertEqual(world.begin("make", "c"), 0)

    def test_bad_place_with_own_names_only(self):
        world = World(Book.read(OWN))
        for row in (1, 2, 10 ** 9):
            self.assert_raised(BadPlace, [row], world.begin, "make", "c", row)
            self.assert_raised(BadPlace, [row], world.begin, "wipe", "c", row)
        world.begin("make", "c", 0)
        self.assert_raised(BadPlace, [1], world.begin, "make", "c", 1)
        self.assert_raised(Busy, [0], world.begin, "make", "c", 0)
        self.assertEqual(world.begin("mop", "c", 3), 1)
        shared = World(Book.read(STORE))
        self.assertEqual([shared.begin("store", "c", row) for row in (1, 0, 10 ** 9)], [0, 1, 2])

    def test_busy_as_long_as_the_run_is_not_over(self):
        world = World(Book(Hand("a", "touch", "touch"), Hand("b", "row"), Hand("c", "drop", begins="open")))
        world.begin("a", "c", 3)
        self.assert_raised(Busy, [0], world.begin, "a", "c", 3)
        self.assert_raised(Busy, [0], world.begin, "c", "c", 3)
        world.step(0)
        self.assert_raised(Busy, [0], world.begin, "b", "c", 3)
        world.step(0)
        self.assertEqual(world.begin("b", "c", 3), 1)
        world.fall(1)
        self.assertEqual(world.begin("b", "c", 3), 2)
        world.step(2)
        self.assertEqual(world.begin("c", "c", 3), 3)
        self.assert_raised(Busy, [3], world.begin, "c", "c", 3)
        self.assertEqual([world.begin("a", "c", 4), world.begin("a", "d", 3)], [4, 5])

    def test_as_the_row_must_be(self):
        for begins in ("none", "open", "done"):
            for standing in ("none", "open", "done"):
                world = world_with(Hand("tested", "put", begins=begins), rows=own_rows(standing))
                begun = len(own_rows(standing))
                if begins == standing:
                    self.assertEqual(world.begin("tested", "c"), begun)
                else:
                    self.assert_raised(NotSo, [standing], world.begin, "tested", "c")
                    self.assertEqual(world.begin("puts", "d"), begun)

    def test_alone(self):
        book = Book(Sweep("a", "clear", "clear", alone=True), Sweep("b", "clear", alone=True, span=0),
                    Sweep("c", "clear"), Hand("d", "put"))
        world = World(book)
        self.assertEqual([world.begin("c", "x"), world.begin("d", "x"), world.begin("c", "x")], [0, 1, 2])
        self.assertEqual(world.begin("a", "x"), 3)
        self.assert_raised(Busy, [3], world.begin, "a", "x")
        self.assert_raised(Busy, [3], world.begin, "b", "x")
        self.assertEqual([world.begin("c", "x"), world.begin("b", "y")], [4, 5])
        world.step(3)
        self.assert_raised(Busy, [3], world.begin, "b", "x")
        self.assert_raised(Busy, [5], world.begin, "a", "y")
        world.tick()
        self.assertEqual(world.begin("a", "y"), 6)
        world.step(3)
        self.assertEqual(world.begin("b", "x"), 7)
        world.fall(7)
        self.assertEqual(world.begin("a", "x"), 8)

    def test_a_reader_needs_a_done_row(self):
        for rows, named in (((), False), (((1, "open"),), False), (((1, "open"), (2, "done")), True)):
            world = world_with(Reader("tested", "read"), file=0, rows=rows)
            if named:
                self.assertEqual(world.stands(world.begin("tested", "c"))[:4], ("tested", "c", -1, 0))
            else:
                self.assert_raised(Unnamed, ["c"], world.begin, "tested", "c")
            self.assert_raised(Unnamed, ["d"], world.begin, "tested", "d", 4)

    def test_order_of_the_errors(self):
        world = World(Book(Hand("a", "done", "touch"), Hand("b", "put", begins="open"), names="own"))
        world.begin("a", "c")
        self.assert_raised(NoHandler, ["x"], world.begin, "x", "c", 1)
        self.assert_raised(BadPlace, [1], world.begin, "b", "c", 1)
        self.assert_raised(Busy, [0], world.begin, "b", "c", 0)
        world.step(0)
        self.assert_raised(Busy, [0], world.begin, "a", "c", 0)
        world.step(0)
        self.assert_raised(NotSo, ["done"], world.begin, "b", "c", 0)
        self.assertEqual(world.running("c"), [])


class TestLooks(WorldTestCase):
    def runs_through(self, *texts, **situation):
        """The indexes that a hand with these statements carries out, and the index at which it then stands."""
        world = world_with(Hand("tested", *texts), **situation)
        before = stock(world)
        run = world.begin("tested", "c")
        carried = []
        while run in world.running("c") and len(carried) < 5:
            carried.append(world.step(run))
        self.assertEqual(stock(world), before)
        return carried, run in world.running("c")

    def test_stop(self):
        self.assertEqual(self.runs_through("stop if file", "touch if nofile", file=0), ([0], False))
        self.assertEqual(self.runs_through("stop if file", "touch if nofile"), ([0, 1], False))

    def test_skip(self):
        texts = ["skip if file", "touch if nofile", "touch if nofile"]
        self.assertEqual(self.runs_through(*texts, file=0), ([0, 2], False))
        self.assertEqual(self.runs_through(*texts), ([0, 1, 2], False))
        self.assertEqual(self.runs_through(*texts[:2], file=0), ([0], False))
        self.assertEqual(self.runs_through(*texts[:1], file=0), ([0], False))
        self.assertEqual(self.runs_through(*texts[:1]), ([0], False))
        self.assertEqual(self.runs_through("touch if nofile", "skip if rows", "stop if norows",
                                           rows=((5, "open"),)), ([0, 1], False))

    def test_again(self):
        self.assertEqual(self.runs_through("touch if nofile", "again if file", "drop", file=0), ([0, 1, 0, 1, 0], True))
        self.assertEqual(self.runs_through("touch if nofile", "again if file", "drop"), ([0, 1, 2], False))
        self.assertEqual(self.runs_through("again if nofile"), ([0, 0, 0, 0, 0], True))

    def test_each_condition_in_each_look(self):
        for kind in ("hand", "sweep", "reader"):
            for word, ends in (("stop", None), ("skip", None), ("again", 0)):
                for condition in CONDITIONS:
                    if f"{word} if {condition}" not in TEXTS[kind][word]:
                        continue
                    for situation in (dict(), dict(file=0, mark=0), dict(rows=((5, "open"),))):
                        situation = dict(situation, rows=situation.get("rows", ()) + ((6, "done"),), age=0)
                        world, run = tested_run(f"{word} if {condition}", kind, **situation)
                        held = holds_by_hand(condition, situation)
                        self.assertEqual(world.step(run), 1)
                        at = world.stands(run)[3] if run in world.running("c") else None
                        self.assertEqual(at, ends if held else 2, (kind, word, condition, situation))


def holds_by_hand(condition, situation):
    """Whether a condition holds for a run whose own row is not there and which reads old whatever there is."""
    file, mark = "file" in situation, "mark" in situation
    return {"file": file, "nofile": not file, "old": file, "young": False, "rows": True, "norows": False,
            "named": True, "unnamed": False, "marked": mark, "unmarked": not mark, "ripe": mark, "unripe": False,
            "mine": False, "notmine": True}[condition]


class TestActs(WorldTestCase):
    def assert_done(self, text, before, after, kind="hand", own="none"):
        """What there is of a content before and after a statement; rows are given by a dict."""
        file, mark, rows = before
        world, run = tested_run(text, kind, own, file=file, mark=mark, rows=tuple(rows.items()), age=3)
        self.assertEqual(stock(world), before)
        self.assertEqual(world.step(run), 1)
        self.assertEqual(stock(world), after, (text, before))
        self.assertEqual(world.stands(run)[3], 2)

    def test_put(self):
        for file in (None, 0, 1, 5):
            self.assert_done("put", (file, 2, {4: "open"}), (0, 2, {4: "open"}))
            self.assert_done("put if file", (file, None, {}), (None if file is None else 0, None, {}))
            self.assert_done("put if nofile", (file, None, {}), (0 if file is None else file, None, {}))

    def test_touch(self):
        for kind in ("hand", "sweep"):
            for file in (None, 0, 1, 5):
                self.assert_done("touch", (file, 1, {}), (None if file is None else 0, 1, {}), kind)
                self.assert_done("touch if nofile", (file, 1, {}), (file, 1, {}), kind)

    def test_strike(self):
        for kind in ("hand", "sweep"):
            for file in (None, 0, 5):
                self.assert_done("strike", (file, None, {1: "done"}), (None, None, {1: "done"}), kind)
                old = None if file is None or file >= 3 else file
                self.assert_done("strike if old", (file, None, {}), (old, None, {}), kind)
                young = None if file is None or file < 3 else file
                self.assert_done("strike if young", (file, None, {}), (young, None, {}), kind)

    def test_row(self):
        for own, then in (("none", "open"), ("open", "open"), ("done", "done")):
            rows = dict(own_rows(own) + ((3, "done"),))
            self.assert_done("row", (2, 1, rows), (2, 1, {**rows, 0: then}), own=own)
            self.assert_done("row if unmarked", (2, 1, rows), (2, 1, rows), own=own)
            self.assert_done("row if marked", (2, 1, rows), (2, 1, {**rows, 0: then}), own=own)

    def test_done(self):
        for own in ("none", "open", "done"):
            rows = dict(own_rows(own) + ((3, "open"),))
            self.assert_done("done", (None, 1, rows), (None, 1, {**rows, 0: "done"}), own=own)
            self.assert_done("done if ripe", (None, 1, rows), (None, 1, rows), own=own)
            self.assert_done("done if unripe", (None, 1, rows), (None, 1, {**rows, 0: "done"}), own=own)

    def test_drop(self):
        for own in ("none", "open", "done"):
            rows = dict(own_rows(own) + ((3, "done"),))
            self.assert_done("drop", (0, None, rows), (0, None, {3: "done"}), own=own)
            self.assert_done("drop if marked", (0, None, rows), (0, None, rows), own=own)

    def test_mark(self):
        for kind in ("hand", "sweep"):
            for mark in (None, 0, 4):
                self.assert_done("mark", (2, mark, {}), (2, 0 if mark is None else mark, {}), kind)
                self.assert_done("mark if rows", (2, mark, {}), (2, mark, {}), kind)
                self.assert_done("unmark", (2, mark, {1: "open"}), (2, None, {1: "open"}), kind)
                ripe = None if mark == 4 else mark
                self.assert_done("unmark if ripe", (2, mark, {}), (2, ripe, {}), kind)

    def test_clear(self):
        rows = {0: "open", 2: "done", 5: "open", 10 ** 9: "open"}
        self.assert_done("clear", (2, 1, rows), (2, 1, {2: "done"}), "sweep")
        self.assert_done("clear", (2, 1, {2: "done"}), (2, 1, {2: "done"}), "sweep")
        self.assert_done("clear if marked", (2, None, rows), (2, None, rows), "sweep")
        self.assert_done("clear if unmarked", (2, None, rows), (2, None, {2: "done"}), "sweep")

    def test_clear_leaves_rows_at_which_a_run_stands(self):
        book = Book(Hand("opens", "row", "row", "touch", span=1), Hand("late", "touch", "touch", begins="open"),
                    Sweep("broom", "clear"))
        world = World(book)
        for row in (1, 2, 3, 4, 5):
            world.begin("opens", "c", row)
            world.step(row - 1)
        world.begin("opens", "d", 1)
        world.step(5)
        world.fall(5)
        world.fall(0)
        for _ in range(2):
            world.step(1)
        world.fall(2)
        world.begin("late", "c", 3)
        book["broom"](world, "c")
        self.assertEqual(world.rows.standings("c"), {3: "open", 4: "open", 5: "open"})
        self.assertEqual(world.rows.standings("d"), {1: "open"})
        world.tick()
        world.tick()
        book["broom"](world, "c")
        self.assertEqual(world.rows.standings("c"), {3: "open"})

    def test_read(self):
        before = (None, 1, {0: "open", 4: "done"})
        self.assert_done("read", before, before, "reader")
        before = (2, 1, {4: "done"})
        self.assert_done("read", before, before, "reader")
        self.assert_done("touch", before, (0, 1, {4: "done"}), "reader")

    def test_contents_never_influence_each_other(self):
        book = Book(Hand("all", "put", "mark", "row", "done"), Sweep("broom", "strike", "unmark", "clear"), keep=2)
        world = World(book)
        book["all"](world, "a")
        world.copy()
        before = [stock(world, "a"), world.copy_of("a"), world.shown("a")]
        book["all"](world, "b", 1)
        book["broom"](world, "b")
        book["broom"](world, "c")
        self.assertEqual([stock(world, "a"), world.copy_of("a"), world.shown("a")], before)
        self.assertEqual(stock(world, "b"), (None, None, {1: "done"}))
        self.assertEqual(stock(world, "c"), (None, None, {}))


class TestReadings(WorldTestCase):
    def read_as(self, text, age, reading, age_of_book, off):
        """Whether a look stops with this reading of an age; None if the reading may not be made."""
        read = "mark" if text.endswith("ripe") else "file"
        world, run = tested_run(text, **{read: age}, age=age_of_book, off=off)
        try:
            world.step(run, reading)
        except NotRead as wrong:
            self.assertEqual(wrong.reading, reading)
            self.assertEqual(world.stands(run)[3], 1)
            return None
        return run not in world.running("c")

    def test_around_the_age(self):
        for age_of_book in (0, 1, 3):
            for off in (0, 1, 2):
                for age in range(age_of_book + off + 3):
                    old = True if age >= age_of_book - off else None
                    young = False if age < age_of_book + off else None
                    for text in ("stop if old", "stop if ripe"):
                        seen = [self.read_as(text, age, reading, age_of_book, off) for reading in ("old", "young", "")]
                        self.assertEqual(seen, [old, young, age >= age_of_book], (text, age, age_of_book, off))
                    for text in ("stop if young", "stop if unripe"):
                        seen = [self.read_as(text, age, reading, age_of_book, off) for reading in ("old", "young", "")]
                        turned = [None if one is None else not one for one in (old, young)]
                        self.assertEqual(seen, turned + [age < age_of_book], (text, age, age_of_book, off))

    def test_wrong_readings(self):
        for text, read in (("stop if old", "file"), ("put if young", "file"), ("stop if ripe", "mark"),
                           ("done if unripe", "mark")):
            for reading in any_values() + ["Old", "ripe", "unripe", "older", ["old"], ("young",), [""]]:
                if isinstance(reading, str) and reading == "":
                    continue
                world, run = tested_run(text, **{read: 2}, age=1, off=2)
                with self.assertRaises(NotRead) as seen:
                    world.step(run, reading)
                self.assertIs(seen.exception.reading, reading)
                self.assertEqual((world.stands(run)[3], stock(world)), (1, stock(tested_run(text, **{read: 2})[0])))

    def test_readings_that_do_not_matter(self):
        for text, situation in (("stop if old", dict(mark=0)), ("put if young", dict()), ("stop if ripe", dict(file=0)),
                                ("done if unripe", dict(file=1)), ("stop if file", dict(file=0, mark=0)),
                                ("put", dict()), ("mark if marked", dict(mark=0)), ("touch", dict(file=3))):
            expected = tested_run(text, **situation, age=1)
            expected[0].step(expected[1])
            for reading in any_values() + ["old", "young", "x"]:
                world, run = tested_run(text, **situation, age=1)
                self.assertEqual(world.step(run, reading), 1)
                self.assertEqual((stock(world), world.running("c")), (stock(expected[0]), expected[0].running("c")))

    def test_two_readings_of_one_moment_need_not_agree(self):
        world = world_with(Hand("tested", "skip if old", "strike if young", "touch if nofile"), file=1, age=1, off=1)
        run = world.begin("tested", "c")
        world.step(run, "young")
        world.step(run, "old")
        self.assertIn("c", world.files)
        self.assertEqual(world.step(run=run, reading="anything"), 2)
        self.assertEqual(world.running("c"), [])

    def test_without_a_clock(self):
        book = Book(Hand("a", "put", "mark", "skip if old", "drop if ripe", "strike if young"), age=3)
        for reading, then in (("old", 4), ("young", 3)):
            world = World(book, clock=False)
            world.begin("a", "c")
            self.assertEqual([world.step(0), world.step(0)], [0, 1])
            for wrong in ("", "x", None, 0, ["old"]):
                self.assert_raised(NotRead, [wrong], world.step, 0, wrong)
            self.assert_raised(NotRead, [""], world.step, 0)
            self.assertEqual(world.step(0, reading), 2)
            self.assertEqual(world.stands(0), ("a", "c", 0, then, 0))
            if then == 3:
                world.step(0, "young")
            world.step(0, "young")
            self.assertEqual(("c" in world.files, world.running("c")), (False, []))

    def test_without_a_clock_readings_that_do_not_matter(self):
        world = World(Book(Hand("a", "skip if old", "put if young", "stop if ripe"), age=3), clock=False)
        world.begin("a", "c")
        self.assertEqual([world.step(0), world.step(0, "x"), world.step(0, None)], [0, 1, 2])

    def test_a_handler_called_without_a_clock(self):
        world = World(Book(Hand("a", "put", "strike if old"), Sweep("b", "touch")), clock=False)
        self.assert_raised(NotRead, [""], world.book["a"], world, "c")
        self.assertEqual((world.running("c"), "c" in world.files), ([], True))
        self.assertEqual(world.book["b"](world, "c"), [0])


class TestRuns(WorldTestCase):
    def test_steps(self):
        world = World(Book.read(STORE))
        world.begin("store", "c", 4)
        self.assertEqual([world.step(0), world.stands(0), world.step(0), world.stands(0), world.step(0)],
                         [0, ("store", "c", 4, 1, 0), 1, ("store", "c", 4, 2, 0), 2])
        self.assertEqual((world.running("c"), stock(world)), ([], (0, None, {4: "done"})))

    def test_what_a_run_has_done_stays(self):
        world = World(Book.read(STORE))
        world.begin("store", "c", 4)
        world.step(0)
        world.step(0)
        self.assertIsNone(world.fall(run=0))
        self.assertEqual((world.running("c"), stock(world)), ([], (0, None, {})))

    def test_runs_that_are_not_there(self):
        world = World(Book.read(STORE))
        for run in (-1, 0, 1, 10 ** 20):
            for act in (world.step, world.fall, world.stands):
                self.assert_raised(NoRun, [run], act, run)
        world.begin("store", "c")
        for run in (-1, 1, 2):
            for act in (world.step, world.fall, world.stands):
                self.assert_raised(NoRun, [run], act, run)

    def test_runs_that_are_over(self):
        book = Book(Hand("a", "stop if file", "stop if nofile", span=0), Hand("b", "put"))
        world = World(book)
        for row in range(3):
            world.begin("a", "c", row)
        world.begin("b", "c", 3)
        world.fall(0)
        world.tick()
        world.begin("a", "c", 1)
        world.begin("a", "c", 2)
        world.step(4)
        world.step(4)
        world.step(3)
        world.step(5)
        # One by a fall, two by their span, then one each by the last statement and by two looks.
        self.assertEqual(world.running("c"), [])
        for run in range(6):
            for act in (world.step, world.fall, world.stands):
                self.assert_raised(Over, [run], act, run)
            self.assert_raised(Over, [run], world.step, run, "x")
        self.assert_raised(NoRun, [6], world.step, 6, "x")
        self.assertEqual(stock(world), (0, None, {}))

    def test_over_before_not_read(self):
        world = World(Book(Hand("a", "put", "stop if old", "put if young")), clock=False)
        world.begin("a", "c")
        world.step(0)
        self.assert_raised(NotRead, ["x"], world.step, 0, "x")
        world.fall(0)
        self.assert_raised(Over, [0], world.step, 0, "x")
        self.assert_raised(NoRun, [1], world.step, 1, "x")

    def test_running(self):
        world = World(Book.read(STORE))
        self.assertEqual(world.running("c"), [])
        for content, row in (("c", 9), ("d", 1), ("c", 3), ("c", 5)):
            world.begin("store", content, row)
        self.assertEqual((world.running("c"), world.running(content="d"), world.running("e")), ([0, 2, 3], [1], []))
        world.running("c").clear()
        world.fall(2)
        self.assertEqual(world.running("c"), [0, 3])

    def test_elapsed_is_counted_without_a_span_too(self):
        world = World(Book.read(STORE))
        world.begin("broom", "c")
        for elapsed in range(1, 6):
            world.tick()
            self.assertEqual(world.stands(0), ("broom", "c", -1, 0, elapsed))

    def test_spans(self):
        for span in (None, 0, 1, 2, 3):
            for tested in (Hand("tested", "put", span=span), Sweep("tested", "touch", span=span),
                           Sweep("tested", "touch", span=span, alone=True), Reader("tested", "read", span=span)):
                world = world_with(tested, rows=((3, "done"),))
                run = world.begin("tested", "c")
                for elapsed in range(6):
                    if span is None or elapsed <= span:
                        self.assertEqual(world.stands(run)[4], elapsed)
                    else:
                        self.assert_raised(Over, [run], world.stands, run)
                    world.tick()


class TestTime(WorldTestCase):
    def test_now(self):
        world = World(Book.read(STORE))
        for now in range(4):
            self.assertEqual(world.now, now)
            self.assertIsNone(world.tick())
        world.begin("store", "c")
        world.copy()
        self.assertEqual(world.now, 4)

    def test_files_and_marks_of_all_contents_grow_older(self):
        book = Book(Hand("a", "put", "mark"), age=1)
        world = World(book)
        book["a"](world, "x")
        world.tick()
        book["a"](world, "y")
        for ticks in range(1, 5):
            world.tick()
            self.assertEqual([world.files["x"], world.mark_of("x")], [ticks + 1] * 2)
            self.assertEqual([world.files["y"], world.mark_of("y")], [ticks] * 2)
            self.assertIsNone(world.mark_of("z"))

    def test_copies(self):
        for keep in (None, 0, 1, 2, 3):
            world = world_with(Sweep("tested", "clear"), rows=((1, "open"), (2, "done")), keep=keep)
            self.assertIsNone(world.copy_of("c"))
            self.assertIsNone(world.copy())
            for left in range(-1 if keep is None else keep, -3, -1):
                self.assertEqual(world.copy_of("c"), left if left >= 0 else None)
                world.tick()

    def test_a_copy_holds_contents_that_a_done_row_names(self):
        book = Book(Hand("dones", "done"), Hand("drops", "drop", begins="done"), Hand("opens", "row"), keep=2)
        world = World(book)
        book["dones"](world, "a")
        book["dones"](world, "b")
        book["opens"](world, "c")
        world.copy()
        self.assertEqual([world.copy_of(content) for content in "abcd"], [2, 2, None, None])
        world.tick()
        book["drops"](world, "a")
        book["dones"](world, "c", 1)
        world.copy()
        self.assertEqual([world.copy_of(content) for content in "abcd"], [1, 2, 2, None])
        for _ in range(2):
            world.tick()
        self.assertEqual([world.copy_of(content=content) for content in "abcd"], [None, 0, 0, None])


class TestHouses(WorldTestCase):
    def test_always_the_same_objects(self):
        book = Book(Hand("all", "put", "done", "drop"), Sweep("broom", "strike", "clear"), keep=1)
        world = World(book)
        files, rows = world.files, world.rows
        book["all"](world, "a")
        book["all"](world, "b", 3)
        book["broom"](world, "b")
        world.tick()
        world.copy()
        world.happen("a", [("tick",), ("begin", "all", 0), ("step", 3, "")])
        world.would("a", [("step", 3, ""), ("tick",)])
        self.assertIs(world.files, files)
        self.assertIs(world.rows, rows)
        self.assertEqual((list(files), list(rows)), (["a"], []))

    def test_worlds_share_nothing(self):
        book = Book.read(STORE)
        one, other = World(book), World(book)
        book["store"](one, "c")
        one.tick()
        self.assertEqual((stock(other), other.now, other.shown("c")), ((None, None, {}), 0, first_state(book)))

    def test_the_book_is_copied(self):
        book = Book.read(STORE)
        world = World(book)
        self.assertEqual(world.book, book)
        book["store"].statements = book["broom"].statements
        book.age = 0
        self.assertEqual(str(world.book), STORE)
        self.assertEqual(world.begin("store", "c"), 0)
        self.assertEqual([world.step(0), world.step(0), world.step(0)], [0, 1, 2])


class TestShown(WorldTestCase):
    def test_nothing(self):
        for text in (STORE, OWN):
            book = Book.read(text)
            self.assertEqual(World(book).shown("c"), first_state(book))
        self.assertEqual(first_state(Book.read(STORE)), (-1, -1, -1, (), (("store", 0, 0), ("store", 1, 0)), ()))

    def test_ages_are_limited(self):
        for off in (0, 2):
            book = Book(Hand("a", "put", "mark", "drop"), age=2, off=off)
            world = World(book)
            book["a"](world, "c")
            for ticks in range(7):
                self.assertEqual(world.shown("c")[:2], (min(ticks, 2 + off), min(ticks, 2 + off)))
                world.tick()

    def test_copy_and_alone(self):
        book = Book(Hand("dones", "done"), Sweep("a", "clear", "clear", alone=True, span=2),
                    Sweep("b", "clear", "clear", alone=True), keep=3)
        world = World(book)
        book["dones"](world, "c")
        world.copy()
        self.assertEqual(world.shown("c")[2:4], (3, ()))
        run = world.begin("a", "c")
        self.assertEqual(world.shown("c")[2:4], (3, ("a", 0, 0)))
        world.tick()
        world.step(run)
        self.assertEqual(world.shown("c")[2:4], (2, ("a", 1, 1)))
        world.fall(run)
        world.begin("b", "c")
        world.tick()
        self.assertEqual(world.shown("c")[2:4], (1, ("b", 0, 0)))
        self.assertEqual(world.shown("d"), first_state(book))

    def test_posts_and_crowd_with_shared_names(self):
        book = Book(Hand("a", "row", "put", "done", span=3), Hand("b", "put", begins="open"))
        world = World(book)
        for row in (5, 4, 3, 2):
            world.begin("a", "c", row)
        world.tick()
        for run in (0, 1, 2):
            world.step(run)
        world.fall(1)
        world.begin("b", "c", 4)
        world.tick()
        world.step(0)
        self.assertEqual(world.shown("c"), (0, -1, -1, (), (("a", 0, 0),), (
            ("open", "a", 1, 2), ("open", "a", 2, 2), ("open", "b", 0, 0))))
        world.fall(4)
        self.assertEqual(world.shown("c")[5], (("open", "", 0, 0), ("open", "a", 1, 2), ("open", "a", 2, 2)))

    def test_the_freshest_of_the_crowd(self):
        book = Book(Hand("a", "row", begins="open"), Sweep("b", "strike", "mark", span=3), age=1)
        world = World(book)
        world.happen("c", [("begin", "b", -1), ("tick",), ("begin", "b", -1), ("step", 0, ""), ("tick",),
                           ("step", 1, "")])
        self.assertEqual(world.shown("c")[4], (("b", 0, 0), ("b", 1, 0)))

    def test_a_run_without_a_row_and_own_names(self):
        book = Book(Hand("a", "put", "row", "drop", "touch", span=2), Sweep("b", "touch"), names="own", age=1)
        world = World(book)
        self.assertEqual(world.shown("c"), (-1, -1, -1, (), (("b", 0, 0),), ()))
        world.begin("a", "c")
        shown = [world.shown("c")[5]]
        for _ in range(3):
            world.step(0)
            shown.append(world.shown("c")[5])
        world.tick()
        shown.append(world.shown("c")[5])
        world.step(0)
        shown.append(world.shown("c")[5])
        self.assertEqual(shown, [(("none", "a", 0, 0),), (("none", "a", 1, 0),), (("open", "a", 2, 0),),
                                 (("none", "a", 3, 0),), (("none", "a", 3, 1),), ()])

    def test_posts_of_the_same_place_differ_by_their_elapsed_ticks(self):
        world = World(Book(Hand("a", "row", "put", span=3), Hand("b", "row", "put")))
        for row in (1, 2, 3, 4, 5):
            run = world.begin("b" if row == 5 else "a", "c", row)
            world.step(run)
            if row in (2, 3):
                world.tick()
        self.assertEqual(world.shown("c")[5], (("open", "a", 1, 0), ("open", "a", 1, 1), ("open", "a", 1, 2),
                                               ("open", "b", 1, 0)))


class TestCalls(WorldTestCase):
    def test_carried_out_to_the_end(self):
        book = Book.read(STORE)
        world = World(book)
        self.assertEqual(book["store"](world, "c"), [0, 1, 2])
        self.assertEqual(book["store"](world, "c", 7), [0, 2])
        self.assertEqual(book["broom"](world=world, content="c", row=3), [0])
        self.assertEqual((stock(world), world.running("c")), ((0, None, {0: "done", 7: "done"}), []))
        self.assertEqual(world.begin("broom", "c"), 3)

    def test_right_readings(self):
        for age in (1, 2, 3, 4):
            world = world_with(Sweep("tested", "skip if old", "stop if file", "strike if young", "strike"),
                               file=age, age=3, off=1)
            self.assertEqual(world.book["tested"](world, "c"), [0, 2, 3] if age >= 3 else [0, 1])

    def test_the_handler_of_this_name_in_the_world(self):
        world = World(Book(Hand("a", "put", "row")))
        self.assertEqual(Sweep("a", "clear")(world, "c", 5), [0, 1])
        self.assertEqual(stock(world), (0, None, {5: "open"}))

    def test_errors_of_the_beginning(self):
        world = World(Book.read(OWN))
        make, wipe, eye, mop = world.book
        self.assert_raised(NoHandler, ["x"], Hand("x", "put"), world, "c")
        self.assert_raised(BadPlace, [1], make, world, "c", 1)
        self.assert_raised(NotSo, ["none"], wipe, world, "c")
        self.assert_raised(Unnamed, ["c"], eye, world, "c")
        world.begin("mop", "c")
        self.assertEqual(mop(world, "c"), [0, 1, 2])
        world.begin("make", "c")
        self.assert_raised(Busy, [2], make, world, "c")
        self.assertEqual((world.running("c"), stock(world)), ([0, 2], (None, 0, {})))

    def call_unfinished(self, handler, index):
        world = World(Book(handler))
        self.assert_raised(Unfinished, [index], handler, world, "c")
        self.assertEqual(world.running("c"), [])
        self.assert_raised(Over, [0], world.stands, 0)
        return world

    def test_unfinished(self):
        world = self.call_unfinished(Hand("a", "row", "put", "again if file"), 0)
        self.assertEqual(stock(world), (0, None, {0: "open"}))
        self.call_unfinished(Hand("a", "again if nofile"), 0)
        # The index tells how many statements were carried out: 24 is 4 rounds of 5 and 4 more.
        self.call_unfinished(Hand("a", "touch", "touch", "touch", "touch", "again if nofile"), 4)
        # And 6 rounds of 4, in which one statement is skipped.
        self.call_unfinished(Hand("a", "touch", "skip if unmarked", "put", "touch", "again if nofile"), 0)

    def test_finished_after_several_rounds(self):
        texts = ["skip if unnamed", "put", "done if marked", "mark if rows", "row", "again if nofile"]
        world = World(Book(Hand("a", *texts)))
        self.assertEqual(world.book["a"](world, "c"), [0, 2, 3, 4, 5] * 3 + [0, 1, 2, 3, 4, 5])
        self.assertEqual((stock(world), world.running("c")), ((0, 0, {0: "done"}), []))

    def test_results_are_new(self):
        world = World(Book.read(STORE))
        world.book["store"](world, "c").clear()
        self.assertEqual(world.book["store"](world, "c", 1), [0, 2])


class TestInterface(unittest.TestCase):
    def test_parameters(self):
        expected = {"begin": "(self, name, content, row=0)", "step": "(self, run, reading='')", "fall": "(self, run)",
                    "tick": "(self)", "copy": "(self)", "running": "(self, content)", "stands": "(self, run)",
                    "mark_of": "(self, content)", "copy_of": "(self, content)", "shown": "(self, content)",
                    "happen": "(self, content, events)", "would": "(self, content, events)"}
        self.assertEqual(str(inspect.signature(World)), "(book, *, clock=True)")
        for name, parameters in expected.items():
            self.assertEqual(str(inspect.signature(vars(World)[name])), parameters)
        self.assertIsInstance(vars(World)["now"], property)
        self.assertEqual(World.__module__, "strayfiles.world")
        self.assertIs(module.World, World)

    def test_attributes(self):
        world = World(Book.read(STORE))
        for name in ("book", "files", "rows"):
            self.assertIn(name, vars(world))
        self.assertEqual((type(world.files).__name__, type(world.rows).__name__), ("FileHouse", "RowHouse"))

    def test_equal_to_nothing_else(self):
        world = World(Book.read(STORE))
        for other in any_values() + [world.book, Span(0), STORE]:
            self.assertIs(world == other, False)
            self.assertIs(other == world, False)


if __name__ == "__main__":
    unittest.main()
