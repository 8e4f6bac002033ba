"""Points 19 to 21 and 27: the moves of a state, what they make of it, walks, and all states that moves reach."""

import inspect
import unittest

from strayfiles import moves as module
from strayfiles.books import Book
from strayfiles.errors import BadMove, BadWalk, TooMany
from strayfiles.handlers import Hand, Reader, Sweep
from strayfiles.moves import moved, moves_of, reached, walked
from strayfiles.states import first_state, is_state, settled
from tests import reference
from tests.samples import OWN, STORE, any_values, random_book
from tests.test_states import random_state

OPEN, DONE = ("open", "", 0, 0), ("done", "", 0, 0)
FIRST = {
    "book": Book.read(STORE),
    "state": (-1, -1, -1, (), (("store", 0, 0), ("store", 1, 0)), ()),
}


def state_of(book, age=-1, mark=-1, copy=-1, alone=(), crowd=(), rows=()):
    return settled(book, (age, mark, copy, alone, crowd, tuple(sorted(rows))))


def listed(book, **parts):
    """All moves of such a state but the tick, which is always there."""
    moves = list(moves_of(book, state_of(book, **parts)))
    assert moves.count(("tick",)) == 1
    return [move for move in moves if move != ("tick",)]


class MovesTestCase(unittest.TestCase):
    def assert_moved(self, book, state, move, expected):
        """The move makes of the state what these parts are; those that are not given stay."""
        new = moved(book, state, move)
        names = ("age", "mark", "copy", "alone", "crowd", "rows")
        parts = dict(zip(names, state))
        parts.update(expected)
        self.assertEqual(dict(zip(names, new)), dict(zip(names, state_of(book, **parts))), (state, move))
        self.assertTrue(is_state(book, new))


class TestMovesOf(MovesTestCase):
    def test_a_generator(self):
        moves = moves_of(**FIRST)
        self.assertTrue(inspect.isgenerator(moves))
        self.assertTrue(inspect.isgeneratorfunction(moves_of))
        self.assertEqual(list(moves), [("alone", "broom"), ("free", "store", 1), ("tick",)])

    def test_the_tick_is_always_there(self):
        for seed in range(100):
            book = random_book(seed)
            self.assertIn(("tick",), moves_of(book, reference.settle(book, random_state(seed, book))))

    def test_copy(self):
        for keep in (None, 0, 1, 2, 3):
            book = Book(Hand("a", "touch", begins="open"), keep=keep)
            there = [] if keep is None else [("copy",)]
            for rows, moves in (((), []), ((OPEN,), []), ((DONE,), there), ((OPEN, DONE), there),
                                ((("done", "a", 0, 0),), there), ((("open", "a", 0, 0),), [])):
                self.assertEqual([move for move in listed(book, rows=rows) if move[0] == "copy"], moves)
            for copy in range(-1, -1 if keep is None else keep):
                self.assertEqual([move for move in listed(book, rows=(DONE,), copy=copy) if move[0] == "copy"], there)

    def test_alone_lone_and_quit(self):
        book = Book(Sweep("b", "mark", "stop if old", alone=True), Sweep("a", "stop if ripe", alone=True),
                    Sweep("c", "mark"), age=2, off=1)
        self.assertEqual(listed(book), [("alone", "a"), ("alone", "b"), ("free", "c", 0)])
        self.assertEqual(listed(book, mark=0), [("alone", "a"), ("alone", "b")])
        self.assertEqual(listed(book, alone=("b", 0, 0)), [("free", "c", 0), ("lone", ""), ("quit",)])
        self.assertEqual(listed(book, alone=("b", 1, 0), mark=1), [("lone", ""), ("quit",)])
        self.assertEqual(listed(book, alone=("a", 0, 0), age=2), [("free", "c", 0), ("lone", ""), ("quit",)])
        for age, readings in ((0, ["young"]), (1, ["old", "young"]), (2, ["old", "young"]), (3, ["old"])):
            moves = [("lone", reading) for reading in readings] + [("quit",)]
            self.assertEqual(listed(book, alone=("b", 1, 0), age=age, mark=0), moves)
            self.assertEqual(listed(book, alone=("a", 0, 0), mark=age), moves)

    def test_falls_and_steps(self):
        book = Book(Hand("a", "row", "drop if ripe", begins="done", span=2), age=1, off=1)
        posts = [("done", "a", 1, 2), ("open", "a", 0, 1)]
        self.assertEqual(listed(book, rows=posts), [
            ("fall", "done", "a", 1, 2, "all"), ("fall", "done", "a", 1, 2, "some"),
            ("fall", "open", "a", 0, 1, "all"), ("fall", "open", "a", 0, 1, "some"),
            ("step", "done", "a", 1, 2, "", "all"), ("step", "done", "a", 1, 2, "", "some"),
            ("step", "open", "a", 0, 1, "", "all"), ("step", "open", "a", 0, 1, "", "some")])
        for mark, readings in ((0, ["old", "young"]), (1, ["old", "young"]), (2, ["old"])):
            steps = [move for move in listed(book, rows=posts[:1] + [OPEN], mark=mark) if move[0] == "step"]
            self.assertEqual(steps, [("step", "done", "a", 1, 2, reading, how)
                                     for reading in readings for how in ("all", "some")])
            own = Book(*book, names="own", age=1, off=1)
            self.assertEqual(listed(own, rows=posts[:1], mark=mark), [("fall", "done", "a", 1, 2, "all")] + [
                ("step", "done", "a", 1, 2, reading, "all") for reading in readings])

    def test_readings_that_do_not_matter(self):
        book = Book(Hand("a", "put if old", "stop if ripe", "skip if file", "touch", begins="open"), age=0, off=2)
        for index, parts in ((0, {}), (0, {"mark": 1}), (1, {}), (1, {"age": 1}), (2, {"age": 0, "mark": 0}),
                             (3, {"age": 0, "mark": 0})):
            steps = [move for move in listed(book, rows=[("open", "a", index, 0)], **parts) if move[0] == "step"]
            self.assertEqual(steps, [("step", "open", "a", index, 0, "", how) for how in ("all", "some")])

    def test_begins(self):
        handlers = [Hand("late", "put", begins="open"), Hand("early", "put", begins="open"),
                    Hand("wipe", "touch", begins="done"), Hand("make", "touch")]
        shared, own = Book(*handlers), Book(*handlers, names="own")

        def begins(book, *rows):
            return [move[1:] for move in listed(book, rows=rows) if move[0] == "begin"]
        both = [("open", "early", "all"), ("open", "early", "some"), ("open", "late", "all"), ("open", "late", "some")]
        self.assertEqual(begins(shared), [])
        self.assertEqual(begins(shared, OPEN), both)
        self.assertEqual(begins(shared, DONE), [("done", "wipe", "all"), ("done", "wipe", "some")])
        self.assertEqual(begins(shared, OPEN, DONE), [("done", "wipe", "all"), ("done", "wipe", "some")] + both)
        self.assertEqual(begins(shared, ("open", "wipe", 0, 0), ("done", "late", 0, 0)), [])
        self.assertEqual(begins(own), [("none", "make", "all")])
        self.assertEqual(begins(own, OPEN), [("open", "early", "all"), ("open", "late", "all")])
        self.assertEqual(begins(own, DONE), [("done", "wipe", "all")])
        for post in (("none", "make", 0, 0), ("open", "make", 0, 0), ("done", "late", 0, 0)):
            self.assertEqual(begins(own, post), [])

    def test_free(self):
        book = Book(Sweep("a", "strike if old", "touch"), Hand("b", "put", "row"), Reader("c", "touch", "read"),
                    age=2, off=1)

        def free(**parts):
            return [move[1:] for move in listed(book, **parts) if move[0] == "free"]
        self.assertEqual(free(), [("b", 0)])
        self.assertEqual(free(age=0), [("b", 1)])
        # With an age of 1 there is a reading that lets it strike, and one that lets it go on.
        self.assertEqual(free(age=1), [("a", 0), ("a", 1), ("b", 0)])
        self.assertEqual(free(age=2, rows=[DONE]), [("a", 0), ("a", 1), ("b", 0), ("c", 0)])
        self.assertEqual(free(age=3, rows=[DONE]), [("a", 0), ("b", 0), ("c", 0)])
        self.assertEqual(free(age=3, crowd=[("a", 1, 0)]), [("a", 0), ("a", 1), ("b", 0)])
        self.assertEqual(free(age=0, crowd=[("c", 1, 0)], rows=[DONE]), [("b", 1)])

    def test_ascending_on_random_books(self):
        for seed in range(600):
            book = random_book(seed % 120)
            state = reference.settle(book, random_state(seed, book))
            moves = list(moves_of(book=book, state=state))
            self.assertEqual(moves, sorted(reference.moves(book, state)), state)


class TestMoved(MovesTestCase):
    def test_random_books(self):
        for seed in range(600):
            book = random_book(seed % 120)
            state = reference.settle(book, random_state(seed, book))
            for move, new in reference.moves(book, state).items():
                self.assertEqual(moved(book, state, move), new, (str(book), state, move))
                self.assertTrue(is_state(book, new))

    def test_tick(self):
        book = Book(Hand("a", "row", "touch", "put", begins="open", span=1), Hand("b", "mark", begins="open"),
                    Sweep("c", "strike", "mark", span=2), Sweep("d", "touch", alone=True, span=0), age=1, off=1, keep=1)
        for age, then in ((-1, -1), (0, 1), (1, 2), (2, 2)):
            self.assert_moved(book, state_of(book, age=age), ("tick",), {"age": then})
            self.assert_moved(book, state_of(book, mark=age), ("tick",), {"mark": then})
        for copy, then in ((1, 0), (0, -1), (-1, -1)):
            self.assert_moved(book, state_of(book, copy=copy), ("tick",), {"copy": then})
        self.assert_moved(book, state_of(book, alone=("d", 0, 0)), ("tick",), {"alone": ()})
        state = state_of(book, crowd=[("a", 2, 1), ("b", 0, 0), ("c", 1, 2)])
        self.assertEqual(moved(book, state, ("tick",))[4], (("b", 0, 0), ("c", 0, 0), ("c", 1, 0)))
        state = state_of(book, age=0, crowd=[("a", 2, 0), ("c", 1, 1)])
        self.assertEqual(state[4], (("a", 2, 0), ("c", 0, 0), ("c", 1, 1)))
        self.assertEqual(moved(book, state, ("tick",))[4], (("a", 2, 1), ("c", 0, 0), ("c", 1, 2)))
        state = state_of(book, age=0, rows=[DONE, ("done", "a", 0, 0), ("done", "a", 1, 1), ("open", "a", 2, 1),
                                            ("open", "b", 0, 0)])
        self.assert_moved(book, state, ("tick",), {
            "age": 1, "rows": [DONE, ("done", "a", 0, 1), OPEN, ("open", "b", 0, 0)]})

    def test_tick_without_a_span(self):
        book = Book(Hand("b", "mark", begins="open"), Sweep("d", "touch", alone=True))
        state = state_of(book, alone=("d", 0, 0), rows=[("open", "b", 0, 0)], crowd=[("b", 0, 0)])
        self.assertEqual(moved(book, state, ("tick",)), state)

    def test_tick_with_own_names(self):
        book = Book(Hand("a", "touch", "put", span=1), names="own")
        for post, then in ((("none", "a", 0, 0), [("none", "a", 0, 1)]), (("none", "a", 1, 1), []),
                           (("open", "a", 0, 1), [OPEN]), (("done", "a", 0, 1), [DONE])):
            self.assert_moved(book, state_of(book, rows=[post]), ("tick",), {"rows": then})

    def test_copy(self):
        for keep in (0, 3):
            book = Book(Hand("a", "touch"), keep=keep)
            for copy in range(-1, keep + 1):
                self.assert_moved(book, state_of(book, copy=copy, rows=[DONE]), ("copy",), {"copy": keep})

    def test_alone_lone_and_quit(self):
        book = Book(Sweep("a", "strike if old", "again if file", "clear", alone=True, span=1), age=1, off=1)
        self.assert_moved(book, state_of(book, age=1), ("alone", "a"), {"alone": ("a", 0, 0)})
        state = state_of(book, age=1, alone=("a", 0, 1), rows=[OPEN, DONE])
        self.assert_moved(book, state, ("quit",), {"alone": ()})
        self.assert_moved(book, state, ("lone", "old"), {"age": -1, "alone": ("a", 1, 1)})
        self.assert_moved(book, state, ("lone", "young"), {"alone": ("a", 1, 1)})
        state = state_of(book, age=1, alone=("a", 1, 1), rows=[OPEN, DONE])
        self.assert_moved(book, state, ("lone", ""), {"alone": ("a", 0, 1)})
        state = state_of(book, alone=("a", 1, 1), rows=[OPEN, DONE])
        self.assert_moved(book, state, ("lone", ""), {"alone": ("a", 2, 1)})
        state = state_of(book, alone=("a", 2, 0), rows=[OPEN, DONE])
        self.assert_moved(book, state, ("lone", ""), {"alone": (), "rows": [DONE]})

    def test_clear_leaves_posts_that_are_not_idle(self):
        book = Book(Hand("x", "put", begins="open"), Sweep("a", "clear", "clear", alone=True))
        posts = [DONE, OPEN, ("open", "x", 0, 0), ("done", "x", 0, 0)]
        state = state_of(book, age=0, alone=("a", 0, 0), rows=posts)
        self.assert_moved(book, state, ("lone", ""), {"alone": ("a", 1, 0),
                                                      "rows": [post for post in posts if post != OPEN]})

    def test_falls(self):
        book = Book(Hand("a", "put", "put", span=3))
        posts = [("done", "a", 1, 3), ("open", "a", 0, 1)]
        state = state_of(book, rows=posts)
        self.assert_moved(book, state, ("fall",) + posts[0] + ("some",), {"rows": posts + [DONE]})
        self.assert_moved(book, state, ("fall",) + posts[0] + ("all",), {"rows": posts[1:] + [DONE]})
        self.assert_moved(book, state, ("fall",) + posts[1] + ("all",), {"rows": posts[:1] + [OPEN]})
        # The idle post is there already.
        state = state_of(book, rows=posts + [OPEN])
        self.assert_moved(book, state, ("fall",) + posts[1] + ("some",), {})
        own = Book(Hand("a", "put", "put", span=3), names="own")
        for standing, then in (("none", []), ("open", [OPEN]), ("done", [DONE])):
            post = (standing, "a", 1, 2)
            self.assert_moved(own, state_of(own, rows=[post]), ("fall",) + post + ("all",), {"rows": then})

    def test_begins(self):
        hand = Hand("a", "put", begins="open", span=3)
        book, own = Book(hand), Book(hand, Hand("b", "put"), names="own")
        state = state_of(book, rows=[OPEN, DONE])
        self.assert_moved(book, state, ("begin", "open", "a", "some"), {"rows": [OPEN, DONE, ("open", "a", 0, 0)]})
        self.assert_moved(book, state, ("begin", "open", "a", "all"), {"rows": [DONE, ("open", "a", 0, 0)]})
        state = state_of(own, rows=[OPEN])
        self.assert_moved(own, state, ("begin", "open", "a", "all"), {"rows": [("open", "a", 0, 0)]})
        self.assert_moved(own, state_of(own), ("begin", "none", "b", "all"), {"rows": [("none", "b", 0, 0)]})

    def test_steps(self):
        book = Book(Hand("a", "put", "drop if ripe", "done", "row", begins="open", span=2), age=1, off=1)
        post = ("open", "a", 0, 2)
        state = state_of(book, age=2, rows=[post])
        then = ("open", "a", 1, 2)
        self.assert_moved(book, state, ("step",) + post + ("", "all"), {"age": 0, "rows": [then]})
        self.assert_moved(book, state, ("step",) + post + ("", "some"), {"age": 0, "rows": [post, then]})
        post = ("open", "a", 1, 2)
        state = state_of(book, mark=1, rows=[post])
        self.assert_moved(book, state, ("step",) + post + ("young", "all"), {"rows": [("open", "a", 2, 2)]})
        self.assert_moved(book, state, ("step",) + post + ("old", "all"), {"rows": [], "crowd": [("a", 2, 2)]})
        self.assert_moved(book, state, ("step",) + post + ("old", "some"), {"rows": [post], "crowd": [("a", 2, 2)]})
        post = ("open", "a", 2, 0)
        self.assert_moved(book, state_of(book, rows=[post]), ("step",) + post + ("", "all"),
                          {"rows": [("done", "a", 3, 0)]})
        for standing, idle in (("open", OPEN), ("done", DONE)):
            post = (standing, "a", 3, 1)
            self.assert_moved(book, state_of(book, rows=[post]), ("step",) + post + ("", "all"), {"rows": [idle]})

    def test_a_run_that_is_over_without_its_row(self):
        hand = Hand("a", "touch", "drop", begins="open", span=1)
        for book in (Book(hand), Book(hand, names="own")):
            post = ("open", "a", 1, 1)
            self.assert_moved(book, state_of(book, age=0, rows=[post]), ("step",) + post + ("", "all"), {"rows": []})

    def test_a_run_without_its_row_and_own_names(self):
        book = Book(Hand("a", "put", "row", "drop", "put", span=1), names="own")
        for at, standing, then, age in ((0, "none", ("none", "a", 1, 1), 0), (1, "none", ("open", "a", 2, 1), -1),
                                        (2, "open", ("none", "a", 3, 1), -1)):
            post = (standing, "a", at, 1)
            move = ("step",) + post + ("", "all")
            self.assert_moved(book, state_of(book, rows=[post]), move, {"age": age, "rows": [then]})
        post = ("none", "a", 3, 0)
        self.assert_moved(book, state_of(book, rows=[post]), ("step",) + post + ("", "all"), {"age": 0, "rows": []})

    def test_free(self):
        book = Book(Hand("a", "row", "put", "done", begins="open", span=2),
                    Sweep("b", "touch if old", "strike if young"), age=1, off=1)
        state = state_of(book, age=1, crowd=[("a", 0, 1), ("a", 1, 2)])
        self.assert_moved(book, state, ("free", "a", 0), {"rows": [("open", "a", 1, 1)]})
        crowd = list(state[4])
        self.assert_moved(book, state, ("free", "a", 1), {"age": 0, "crowd": crowd + [("a", 2, 2)]})
        state = state_of(book, age=1, crowd=[("a", 2, 2)])
        self.assert_moved(book, state, ("free", "a", 2), {"rows": [DONE]})
        self.assert_moved(book, state, ("free", "b", 0), {"age": 0})
        self.assert_moved(book, state, ("free", "b", 1), {"age": -1})
        self.assertIn(("b", 1, 0), moved(book, state, ("free", "b", 0))[4])

    def test_a_move_that_leads_to_the_same_state(self):
        book = Book(Sweep("a", "touch", alone=True), Hand("b", "touch", begins="open"))
        state = state_of(book, rows=[OPEN, ("open", "b", 0, 0)])
        for move in (("tick",), ("begin", "open", "b", "some"), ("fall", "open", "b", 0, 0, "some"),
                     ("step", "open", "b", 0, 0, "", "some")):
            self.assertIn(move, moves_of(book, state))
            self.assertEqual(moved(book, state, move), state)


class TestBadMove(MovesTestCase):
    def assert_bad(self, book, state, move):
        with self.assertRaises(BadMove) as seen:
            moved(book, state, move)
        self.assertIs(seen.exception.move, move)

    def test_any_values(self):
        for value in any_values() + [["tick"], "tick", (("tick",),), ("tick", ""), ("tick", None), ("Tick",)]:
            self.assert_bad(move=value, **FIRST)

    def test_parts_of_other_kinds(self):
        book = Book(Hand("a", "mark", "put if old", begins="open", span=1), Sweep("b", "mark", alone=True),
                    age=1, off=1)
        state = state_of(book, age=1, rows=[OPEN, ("open", "a", 1, 1), ("open", "a", 1, 0), ("open", "a", 0, 0)],
                         crowd=[("a", 1, 0)])
        moves = list(moves_of(book, state))
        self.assertEqual(sorted({move[0] for move in moves}), ["alone", "begin", "fall", "free", "step", "tick"])
        self.assertIn(("step", "open", "a", 1, 0, "old", "some"), moves)
        for move in moves:
            self.assert_bad(book, state, list(move))
            self.assert_bad(book, state, move + ("",))
            self.assert_bad(book, state, move[:-1])
            for at in range(len(move)):
                for value in any_values() + [False, True, [move[at]], (move[at],)]:
                    wrong = move[:at] + (value,) + move[at + 1:]
                    if not any(wrong == one and str(wrong) == str(one) for one in moves):
                        self.assert_bad(book, state, wrong)

    def test_moves_of_other_states(self):
        for seed in range(40):
            book = random_book(seed)
            states = [reference.settle(book, random_state(seed + one, book)) for one in range(4)]
            for state in states:
                own = set(reference.moves(book, state))
                for other in states:
                    for move in set(reference.moves(book, other)) - own:
                        self.assert_bad(book, state, move)

    def test_moves_that_are_not_there(self):
        shared, state = FIRST["book"], FIRST["state"]
        for move in (("copy",), ("alone", "store"), ("alone", "x"), ("lone", ""), ("quit",), ("free", "store", 0),
                     ("free", "store", 2), ("free", "broom", 0), ("begin", "none", "store", "all"),
                     ("begin", "open", "store", "all"), ("fall", "open", "store", 0, 0, "all"),
                     ("fall", "none", "store", 0, 0, "all"), ("step", "none", "store", 0, 0, "", "all")):
            self.assert_bad(shared, state, move)
        own = Book.read(OWN)
        state = state_of(own, age=0, rows=[("done", "make", 1, 0)])
        for move in (("begin", "done", "wipe", "all"), ("fall", "done", "make", 1, 0, "some"), ("free", "make", 0),
                     ("step", "done", "make", 1, 0, "old", "all"), ("step", "done", "make", 1, 1, "", "all"),
                     ("step", "done", "make", 1, 0, "", "some"), ("begin", "none", "make", "all")):
            self.assert_bad(own, state, move)
        self.assertEqual(moved(own, state, ("step", "done", "make", 1, 0, "", "all"))[5], (("done", "make", 2, 0),))

    def test_readings_that_may_not_be_made(self):
        book = Book(Hand("a", "put if old", "put", begins="open"), age=2)
        for age, wrong in ((1, "old"), (2, "young"), (0, "")):
            state = state_of(book, age=age, rows=[("open", "a", 0, 0)])
            self.assert_bad(book, state, ("step", "open", "a", 0, 0, wrong, "all"))


class TestWalked(unittest.TestCase):
    MOVES = [("free", "store", 1), ("free", "store", 2), ("alone", "broom"), ("tick",), ("lone", "")]

    def test_by_hand(self):
        book = Book.read(STORE)
        crowd = (("store", 0, 0), ("store", 1, 0), ("store", 2, 0))
        # From statement 0 a run skips to 2 as long as there is a file.
        older = (("store", 0, 0), ("store", 1, 1), ("store", 2, 0))
        put = (0, -1, -1, (), crowd, ())
        done = (0, -1, -1, (), crowd, (DONE,))
        self.assertEqual(walked(book, self.MOVES), [
            first_state(book), put, done, (0, -1, -1, ("broom", 0, 0), crowd, (DONE,)),
            (1, -1, -1, ("broom", 0, 0), older, (DONE,)), (1, -1, -1, (), older, (DONE,))])

    def test_no_moves(self):
        book = Book.read(OWN)
        for moves in ([], ()):
            self.assertEqual(walked(book=book, moves=moves), [first_state(book)])

    def test_lists_and_tuples(self):
        book = Book.read(STORE)
        states = walked(book, tuple(self.MOVES))
        self.assertEqual(states, walked(book, self.MOVES))
        self.assertIsInstance(states, list)
        states.clear()
        self.assertEqual(len(walked(book, self.MOVES)), 6)

    def test_bad_walks(self):
        book = Book.read(STORE)
        for at in range(len(self.MOVES) + 1):
            for wrong in any_values() + [["tick"], ("tick", ""), ("copy",), ("free", "store", True), ("lone", "old")]:
                moves = self.MOVES[:at] + [wrong, "tick"]
                with self.assertRaises(BadWalk) as seen:
                    walked(book, moves)
                self.assertEqual(vars(seen.exception), {"at": at})

    def test_moves_must_be_moves_there(self):
        book = Book.read(STORE)
        put, done, alone, tick, lone = self.MOVES
        for at, moves in ((0, [done, put]), (0, [lone]), (1, [put, put]), (1, [alone, alone]), (1, [tick, lone, tick]),
                          (3, [alone, lone, lone, lone]), (3, [put, tick, alone, ("lone", "old")])):
            with self.assertRaises(BadWalk) as seen:
                walked(book, moves)
            self.assertEqual(seen.exception.at, at)


class TestReached(unittest.TestCase):
    def all_by_reference(self, book, most):
        """All states that moves reach, or None if they are more than these."""
        found, waiting = {reference.first(book)}, [reference.first(book)]
        while waiting and len(found) <= most:
            for new in reference.moves(book, waiting.pop()).values():
                if new not in found:
                    found.add(new)
                    waiting.append(new)
        return sorted(found) if len(found) <= most else None

    def test_random_books(self):
        reached_all = 0
        for seed in range(120):
            book = random_book(seed)
            expected = self.all_by_reference(book, 60)
            if expected is None:
                with self.assertRaises(TooMany) as seen:
                    reached(book, most=60)
                self.assertEqual(vars(seen.exception), {"what": "states"})
            else:
                reached_all += 1
                self.assertEqual(reached(book, most=60), expected)
        self.assertGreater(reached_all, 30)

    def test_by_hand(self):
        book = Book(Hand("a", "touch"))
        self.assertEqual(reached(book), [first_state(book)])
        own = Book(Hand("a", "put", span=0), names="own")
        none = (("none", "a", 0, 0),)
        self.assertEqual(reached(book=own, most=4), [(-1, -1, -1, (), (), ()), (-1, -1, -1, (), (), none),
                                                     (0, -1, -1, (), (), ()), (0, -1, -1, (), (), none)])

    def test_closed_and_ascending(self):
        own = Book(Hand("a", "put", "row", "done", span=1), Sweep("b", "strike if old"), names="own", age=2)
        for book in (Book.read(STORE), own):
            states = reached(book)
            self.assertEqual(states, sorted(set(states)))
            self.assertIn(first_state(book), states)
            for state in states:
                self.assertTrue(is_state(book, state))
                for move in moves_of(book, state):
                    self.assertIn(moved(book, state, move), states)

    def test_the_bound(self):
        bounds = 0
        for seed in range(60):
            book = random_book(seed)
            expected = self.all_by_reference(book, 60)
            if expected is None or len(expected) == 1:
                continue
            bounds += 1
            many = len(expected)
            self.assertEqual(reached(book, most=many), expected)
            self.assertEqual(reached(book, most=many + 1), expected)
            for most in (many - 1, 1):
                with self.assertRaises(TooMany) as seen:
                    reached(book, most=most)
                self.assertEqual(vars(seen.exception), {"what": "states"})
        self.assertGreater(bounds, 10)

    def test_the_bound_is_100_if_none_is_given(self):
        # File and mark can have each age from -1 to 8.
        large = Book(Hand("a", "put"), Sweep("b", "mark"), age=6, off=2)
        self.assertEqual(len(reached(large)), 100)
        larger = Book(Hand("a", "put"), Sweep("b", "mark"), Reader("c", "read"), Hand("d", "done"), age=6, off=2)
        self.assertEqual(len(reached(larger, most=200)), 200)
        with self.assertRaises(TooMany):
            reached(larger)

    def test_results_are_new(self):
        book = Book.read(STORE)
        reached(book).clear()
        self.assertGreater(len(reached(book)), 1)


class TestInterface(unittest.TestCase):
    def test_parameters(self):
        for name, parameters in (("moves_of", "(book, state)"), ("moved", "(book, state, move)"),
                                 ("walked", "(book, moves)"), ("reached", "(book, *, most=100)")):
            function = vars(module)[name]
            self.assertEqual((str(inspect.signature(function)), function.__module__), (parameters, "strayfiles.moves"))


if __name__ == "__main__":
    unittest.main()
