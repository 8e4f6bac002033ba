"""Points 24 and 25: rounds, the calm, and the faults of states."""

import random
import unittest

from strayfiles.books import Book
from strayfiles.calm import calm_moves, faults, round_moves
from strayfiles.errors import TooMany
from strayfiles.handlers import Hand, Reader, Sweep
from strayfiles.moves import moved, reached
from strayfiles.states import first_state, is_state, settled
from strayfiles.world import World
from tests import plain
from tests.samples import OWN, STORE, likely_book, random_book

OPEN, DONE = ("open", "", 0, 0), ("done", "", 0, 0)
TICK, QUIT = ("tick",), ("quit",)


def state_of(book, age=-1, mark=-1, copy=-1, alone=(), crowd=(), rows=()):
    state = settled(book, (age, mark, copy, alone, crowd, tuple(sorted(rows))))
    assert is_state(book, state)
    return state


def round_of(book, **parts):
    return round_moves(book, state_of(book, **parts))


def calm_of(book, **parts):
    return calm_moves(book, state_of(book, **parts))


def faults_of(book, **parts):
    return faults(book, state_of(book, **parts))


def made(book, state, moves):
    for move in moves:
        state = moved(book, state, move)
    return state


def some_states(most=60, seeds=60):
    """Books, each with some states that moves reach."""
    for make in (random_book, likely_book):
        for seed in range(seeds):
            book = make(seed)
            try:
                states = reached(book, most=most)
            except TooMany:
                continue
            yield book, random.Random(seed).sample(states, min(4, len(states)))


class TestRoundMoves(unittest.TestCase):
    def test_no_sweeps(self):
        book = Book(Hand("a", "put", "done"))
        self.assertEqual(round_moves(book, first_state(book)), [])
        self.assertEqual(round_of(book, age=0, rows=[OPEN, ("open", "a", 1, 0)]), [])

    def test_only_what_does_something_is_a_move(self):
        book = Book(Sweep("a", "stop if named", "mark", "strike if old", "clear"), age=2)
        self.assertEqual(round_of(book), [("free", "a", 1)])
        self.assertEqual(round_of(book, mark=0), [])
        self.assertEqual(round_of(book, mark=1, age=1), [])
        self.assertEqual(round_of(book, mark=1, age=2), [("free", "a", 2)])
        self.assertEqual(round_of(book, age=2, rows=[OPEN]), [("free", "a", 1), ("free", "a", 2), ("free", "a", 3)])
        self.assertEqual(round_of(book, age=2, rows=[OPEN, DONE]), [])

    def test_rows_with_runs_are_not_cleared(self):
        book = Book(Hand("h", "put", begins="open"), Sweep("a", "clear"))
        self.assertEqual(round_of(book, rows=[("open", "h", 0, 0)]), [])
        self.assertEqual(round_of(book, rows=[("open", "h", 0, 0), OPEN]), [("free", "a", 0)])

    def test_all_statements_of_a_sweep_called_alone_are_moves(self):
        book = Book(Sweep("a", "stop if named", "mark", "strike if old", "stop if ripe", alone=True), age=2)
        begin, step = ("alone", "a"), ("lone", "")
        self.assertEqual(round_of(book), [begin, step, step, step, ("lone", "young")])
        self.assertEqual(round_of(book, mark=2), [begin, step, step, step, ("lone", "old")])
        self.assertEqual(round_of(book, age=1, mark=1), [begin, step, step] + [("lone", "young")] * 2)
        self.assertEqual(round_of(book, age=2, mark=1), [begin, step, step, ("lone", "old"), ("lone", "young")])
        self.assertEqual(round_of(book, age=2, rows=[DONE]), [begin, step])

    def test_the_right_readings(self):
        for off in (0, 1, 2):
            free = Book(Sweep("a", "strike if old"), age=2, off=off)
            alone = Book(Sweep("a", "strike if old", alone=True), age=2, off=off)
            for age in range(0, 3 + off):
                old = age >= 2
                self.assertEqual(round_of(free, age=age), [("free", "a", 0)] if old else [])
                self.assertEqual(round_of(alone, age=age), [("alone", "a"), ("lone", "old" if old else "young")])

    def test_one_that_stands_alone_quits_first(self):
        book = Book(Sweep("b", "strike", "mark", alone=True), Sweep("a", "strike"))
        self.assertEqual(round_of(book, alone=("b", 1, 0)), [QUIT, ("alone", "b"), ("lone", ""), ("lone", "")])
        book = Book(Sweep("b", "unmark if ripe", "mark", alone=True), Sweep("a", "strike"), age=1)
        self.assertEqual(round_of(book, alone=("b", 1, 0), age=0, mark=1),
                         [QUIT, ("alone", "b"), ("lone", "old"), ("lone", ""), ("free", "a", 0)])

    def test_the_sweeps_go_in_the_order_of_the_book(self):
        book = Book(Sweep("b", "mark if unmarked"), Reader("r", "touch"), Sweep("a", "unmark"), Sweep("c", "mark"))
        self.assertEqual(round_of(book), [("free", "b", 0), ("free", "a", 0), ("free", "c", 0)])

    def test_other_runs_do_not_move(self):
        book = Book(Hand("h", "put", "done"), Sweep("a", "stop if file", "mark"), Reader("r", "touch"))
        self.assertEqual(round_of(book, crowd=[("h", 1, 0)], rows=[("open", "h", 0, 0)]), [("free", "a", 1)])
        # One of the crowd that is further stays where it is, and a new run begins.
        book = Book(Sweep("a", "again if nofile", "strike"))
        self.assertEqual(round_of(book, age=0, crowd=[("a", 1, 0)]), [("free", "a", 1)])
        self.assertEqual(round_of(book, crowd=[("a", 1, 0)]), [])

    def test_24_statements(self):
        texts = ("mark", "unmark", "again if nofile")
        free = Book(Sweep("a", *texts))
        self.assertEqual(round_of(free), [("free", "a", 0), ("free", "a", 1)] * 8)
        self.assertEqual(round_of(free, age=0), [("free", "a", 0), ("free", "a", 1)])
        alone = Book(Sweep("a", *texts, alone=True))
        self.assertEqual(round_of(alone), [("alone", "a")] + [("lone", "")] * 24 + [QUIT])
        self.assertEqual(round_of(alone, age=0), [("alone", "a")] + [("lone", "")] * 3)
        # It breaks off in the midst of the statements.
        texts = ("mark", "unmark", "mark", "unmark", "again if nofile")
        turn = [("free", "a", index) for index in range(4)]
        self.assertEqual(round_of(Book(Sweep("a", *texts))), turn * 5)
        two = Book(Sweep("a", *texts, alone=True), Sweep("b", "mark if unmarked", "unmark"))
        self.assertEqual(round_of(two), [("alone", "a")] + [("lone", "")] * 24 + [QUIT, ("free", "b", 0),
                                                                                  ("free", "b", 1)])

    def test_random_states(self):
        many = 0
        for book, states in some_states():
            for state in states:
                moves = round_moves(book, state)
                self.assertEqual((moves, made(book, state, moves)), plain.make_round(book, state))
                many += len(moves)
        self.assertGreater(many, 200)

    def test_a_new_list(self):
        book = Book.read(STORE)
        moves = round_moves(book=book, state=first_state(book))
        self.assertIsInstance(moves, list)
        moves.clear()
        self.assertEqual(len(round_moves(book, first_state(book))), 3)


class TestCalmMoves(unittest.TestCase):
    def test_ticks_as_many_as_change_something(self):
        book = Book(Sweep("a", "strike if old"), age=2)
        self.assertEqual(calm_of(book), [])
        self.assertEqual(calm_of(book, age=0), [TICK, TICK, ("free", "a", 0)])
        self.assertEqual(calm_of(book, age=2), [("free", "a", 0)])
        self.assertEqual(calm_of(book, age=2, mark=1), [TICK, ("free", "a", 0)])
        book = Book(Sweep("a", "strike if old"), age=6, off=2)
        self.assertEqual(calm_of(book, age=0), [TICK] * 8 + [("free", "a", 0)])
        self.assertEqual(calm_of(Book(Sweep("a", "strike if old")), age=0), [("free", "a", 0)])
        book = Book(Hand("h", "put", span=1), keep=3)
        self.assertEqual(calm_of(book, rows=[DONE], copy=2), [TICK] * 3)

    def test_runs_of_the_crowd_grow_older_and_fall(self):
        book = Book(Hand("h", "put", "done", "touch", span=2))
        self.assertEqual(calm_of(book), [])
        self.assertEqual(calm_of(book, crowd=[("h", 1, 0)]), [TICK] * 3)
        self.assertEqual(calm_of(book, crowd=[("h", 1, 2)]), [TICK])

    def test_falls(self):
        book = Book(Hand("h", "put", "done", begins="open"), Hand("g", "drop", "strike", begins="done"),
                    Sweep("a", "mark", "mark if marked", alone=True))
        moves = calm_of(book, alone=("a", 1, 0), mark=0, crowd=[("g", 1, 0)],
                        rows=[OPEN, ("open", "h", 1, 0), ("open", "h", 0, 0), ("done", "g", 0, 0)])
        first = [QUIT, ("fall", "done", "g", 0, 0, "all"), ("fall", "open", "h", 0, 0, "all"),
                 ("fall", "open", "h", 1, 0, "all")]
        self.assertEqual(moves, first + [("alone", "a"), ("lone", ""), ("lone", "")] * 5)
        book = Book(Hand("h", "put", "row"), names="own")
        self.assertEqual(calm_of(book, age=0, rows=[("none", "h", 1, 0)]), [("fall", "none", "h", 1, 0, "all")])

    def test_five_rounds(self):
        book = Book(Sweep("a", "stop if unripe", "unmark"), Sweep("b", "mark if unmarked"), age=1)
        turn = [("free", "a", 1), ("free", "b", 0)]
        self.assertEqual(calm_of(book), [("free", "b", 0)] + ([TICK] + turn) * 4)
        self.assertEqual(calm_of(book, mark=0), ([TICK] + turn) * 5)

    def test_random_states(self):
        for book, states in some_states():
            for state in states:
                moves = calm_moves(book, state)
                self.assertEqual((moves, made(book, state, moves)), plain.make_calm(book, state))

    def test_a_new_list(self):
        book = Book.read(STORE)
        state = state_of(book, age=0)
        moves = calm_moves(book=book, state=state)
        self.assertIsInstance(moves, list)
        copy = list(moves)
        moves.clear()
        self.assertEqual(calm_moves(book, state), copy)


class TestFaults(unittest.TestCase):
    # A book without any fault in its first state.
    GOOD = Book(Hand("h", "put", "done"), Sweep("a", "stop if named", "strike"), Reader("r", "stop if nofile", "read"),
                keep=1)

    def test_none(self):
        self.assertEqual(faults_of(self.GOOD), ())
        self.assertEqual(faults_of(self.GOOD, age=0), ())
        self.assertEqual(faults_of(self.GOOD, age=0, rows=[DONE], copy=1), ())

    def test_lost(self):
        self.assertEqual(faults_of(self.GOOD, rows=[DONE]), ("lost",))
        self.assertEqual(faults_of(self.GOOD, rows=[("done", "h", 1, 0)]), ("lost",))
        self.assertEqual(faults_of(self.GOOD, rows=[OPEN]), ())
        self.assertEqual(faults_of(self.GOOD, rows=[OPEN, DONE]), ("lost",))

    def test_blind(self):
        self.assertEqual(faults_of(self.GOOD, crowd=[("r", 1, 0)]), ("blind",))
        self.assertEqual(faults_of(self.GOOD, age=0, crowd=[("r", 1, 0)]), ())
        self.assertEqual(faults_of(self.GOOD, crowd=[("h", 1, 0), ("r", 0, 0)]), ())
        self.assertEqual(faults_of(self.GOOD, crowd=[("r", 1, 0)], rows=[DONE]), ("lost", "blind"))
        two = Book(Reader("r", "read", "touch"), Reader("s", "touch", "read"))
        self.assertEqual(faults_of(two, crowd=[("r", 1, 0)]), ("barred",))
        self.assertEqual(faults_of(two, crowd=[("s", 1, 0)]), ("blind", "barred"))

    def test_stray(self):
        book = Book(Hand("h", "put", "done"), Sweep("a", "stop if rows", "strike"))
        self.assertEqual(faults_of(book, age=0), ())
        self.assertEqual(faults_of(book, age=0, rows=[OPEN]), ("stray",))
        self.assertEqual(faults_of(book, age=0, rows=[("open", "h", 1, 0)]), ("stray",))
        self.assertEqual(faults_of(book, age=0, rows=[OPEN, DONE]), ())
        self.assertEqual(faults_of(book, rows=[OPEN]), ())
        # Without a sweep each such file is stray.
        self.assertEqual(faults_of(Book(Hand("h", "put", "done")), age=0), ("stray",))

    def test_stray_in_the_calm_only(self):
        """The runs that stand at rows or alone do not help."""
        hand = Hand("h", "strike", "done", begins="open")
        use = Hand("n", "put", "done")
        alone = Sweep("a", "stop if marked", "strike", alone=True)
        self.assertEqual(faults_of(Book(hand, use), age=0, rows=[("open", "h", 0, 0)]), ("stray",))
        self.assertEqual(faults_of(Book(use, alone), age=0, mark=0, alone=("a", 1, 0)), ("stray",))
        self.assertEqual(faults_of(Book(use, alone), age=0, alone=("a", 1, 0)), ())

    def test_stray_after_four_rounds(self):
        """The one sweep marks in every other round; the other clears in the second one and strikes in the fourth."""
        book = Book(Hand("n", "put", "done"), Sweep("a", "mark"),
                    Sweep("b", "stop if unripe", "skip if rows", "strike", "clear", "unmark"), age=1)
        turn = [("free", "a", 0), TICK]
        first = [TICK] + turn + [("free", "b", 3), ("free", "b", 4)]
        last = turn + [("free", "b", 2), ("free", "b", 4)]
        self.assertEqual(calm_of(book, age=0, rows=[OPEN]), first + last + [("free", "a", 0)])
        self.assertEqual(faults_of(book, age=0, rows=[OPEN]), ())

    def test_torn(self):
        self.assertEqual(faults_of(self.GOOD, copy=0), ("torn",))
        self.assertEqual(faults_of(self.GOOD, copy=1), ("torn",))
        self.assertEqual(faults_of(self.GOOD, copy=0, age=0), ())
        self.assertEqual(faults_of(self.GOOD, copy=-1), ())

    def test_the_order(self):
        book = Book(Hand("h", "done"), Reader("r", "read"), Sweep("a", "mark"), keep=0)
        self.assertEqual(faults_of(book, copy=0, rows=[DONE]), ("lost", "blind", "torn", "barred"))
        self.assertEqual(faults_of(book, age=0), ("stray",))
        self.assertEqual(faults_of(Book(Hand("h", "put"), keep=0), age=0, copy=0), ("stray", "barred"))

    def test_random_states(self):
        seen = set()
        for book, states in some_states():
            for state in states:
                found = faults(book, state)
                self.assertEqual(found, plain.faults(book, state))
                seen.update(found)
        self.assertEqual(seen, {"lost", "blind", "stray", "torn", "barred"})

    def test_by_name(self):
        book = Book.read(OWN)
        self.assertEqual(faults(book=book, state=first_state(book)), ())
        self.assertIsInstance(faults(book, first_state(book)), tuple)


class TestBarred(unittest.TestCase):
    def barred(self, *texts, names="shared", begins="none", age=0, more=(), **parts):
        book = Book(Hand("h", *texts, begins=begins), *more, names=names, age=age)
        return "barred" in faults_of(book, **parts)

    def test_of_use(self):
        for texts in (("put", "done"), ("done", "put"), ("row", "put", "done"), ("skip if file", "put", "done"),
                      ("put", "done", "stop if named", "strike"), ("put", "drop", "done", "touch")):
            self.assertFalse(self.barred(*texts), texts)
        for texts in (("put",), ("done",), ("put", "row"), ("put", "done", "drop"), ("put", "done", "strike"),
                      ("stop if nofile", "put", "done"), ("put", "done", "again if file"),
                      ("put", "done", "again if mine")):
            self.assertTrue(self.barred(*texts), texts)

    def test_the_state_matters(self):
        book = Book(Hand("h", "done"))
        self.assertEqual(faults_of(book, age=0), ("stray",))
        self.assertEqual(faults_of(book), ("barred",))
        # It is asked in the calm, where the file is old, and the mark ripe.
        book = Book(Hand("h", "stop if young", "done"), age=2)
        self.assertEqual(faults_of(book, age=0), ("stray",))
        book = Book(Hand("h", "stop if old", "done"), age=2)
        self.assertEqual(faults_of(book, age=0), ("stray", "barred"))
        book = Book(Hand("h", "put", "done if ripe"), age=2)
        self.assertEqual(faults_of(book, mark=0), ())
        self.assertEqual(faults_of(book), ("barred",))
        # The file is young as soon as it is put.
        book = Book(Hand("h", "put", "stop if old", "done"), age=2)
        self.assertEqual(faults_of(book, age=0), ("stray",))
        # The right readings are made: at one tick the file might be read as old here.
        book = Book(Hand("h", "put", "stop if old", "done"), age=1, off=1)
        self.assertEqual(faults_of(book), ())

    def test_other_rows(self):
        book = Book(Hand("h", "stop if rows", "put", "done"))
        self.assertEqual(faults_of(book), ())
        self.assertEqual(faults_of(book, age=0, rows=[OPEN]), ("stray", "barred"))
        self.assertEqual(faults_of(book, age=0, rows=[DONE]), ("barred",))
        book = Book(Hand("h", "stop if named", "put", "done"))
        self.assertEqual(faults_of(book, age=0, rows=[OPEN]), ("stray",))
        self.assertEqual(faults_of(book, age=0, rows=[DONE]), ("barred",))
        # Its own row is one of the rows as soon as it is there.
        book = Book(Hand("h", "row", "stop if norows", "put", "stop if named", "done", "stop if unnamed"))
        self.assertEqual(faults_of(book), ())

    def test_without_a_hand_that_begins_from_none(self):
        for book in (Book(Sweep("a", "mark")), Book(Hand("h", "put", "done", begins="open"))):
            self.assertEqual(faults_of(book), ("barred",))
            self.assertEqual(faults_of(book, age=0, rows=[OPEN, DONE]), ("barred",))

    def test_one_of_several_is_enough(self):
        bad, good = Hand("b", "put"), Hand("g", "put", "done")
        for handlers in ((bad, good), (good, bad)):
            self.assertEqual(faults_of(Book(*handlers)), ())
        self.assertEqual(faults_of(Book(bad)), ("barred",))

    def test_own_names(self):
        def found(begins, rows, texts=("put", "done")):
            return self.barred(*texts, names="own", begins=begins, rows=rows)
        self.assertFalse(found("none", []))
        self.assertTrue(found("open", []))
        self.assertTrue(found("done", []))
        self.assertTrue(found("none", [OPEN]))
        self.assertFalse(found("open", [OPEN]))
        self.assertTrue(found("done", [OPEN]))
        for begins in ("none", "open", "done"):
            self.assertFalse(found(begins, [DONE], ("mark",)))
        # Its row is the one row of the content.
        self.assertFalse(found("open", [OPEN], ("stop if norows", "drop", "stop if rows", "done", "put")))
        self.assertTrue(found("none", [], ("put", "done", "drop")))
        self.assertFalse(found("none", [("none", "h", 1, 0)]))

    def test_own_names_in_the_calm(self):
        book = Book(Hand("h", "row", "put", "done"), Sweep("a", "clear"), names="own")
        self.assertEqual(faults_of(book, rows=[OPEN]), ())
        self.assertEqual(faults_of(book, rows=[("open", "h", 1, 0)]), ())
        book = Book(Hand("h", "row", "put", "done"), names="own")
        self.assertEqual(faults_of(book, rows=[("open", "h", 1, 0)]), ("barred",))
        self.assertEqual(faults_of(book, age=0, rows=[("done", "h", 1, 0)]), ())

    def test_24_statements(self):
        self.assertFalse(self.barred("put", "done", "again if nofile"))
        self.assertTrue(self.barred("put", "done", "again if named"))
        self.assertTrue(self.barred("put", "done", "mark", "unmark", "again if unmarked"))
        # Four times round, so that it is over by its twenty-fourth statement.
        hand = Hand("h", "done if unripe", "mark if rows", "row if unmarked", "unmark if ripe", "put",
                    "again if unnamed")
        book = Book(hand, Sweep("m", "mark"), age=2)
        world = World(book)
        book["m"](world, "c")
        world.tick()
        world.tick()
        self.assertEqual(len(hand(world, "c", 0)), 24)
        self.assertEqual((world.rows["c", 0], "c" in world.files), ("done", True))
        self.assertEqual(faults_of(book), ())


if __name__ == "__main__":
    unittest.main()
