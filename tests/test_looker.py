"""Point 26: what `is_certificate` says of any value."""

import inspect
import unittest

from strayfiles import looker as module
from strayfiles.books import Book
from strayfiles.errors import BadAsks, TooMany
from strayfiles.handlers import Hand, Sweep
from strayfiles.judging import judge
from strayfiles.looker import is_certificate
from strayfiles.moves import moved, moves_of, reached
from strayfiles.states import first_state, is_state, settled
from tests import plain
from tests.samples import OWN, STORE, any_values, likely_book, random_book
from tests.test_judging import BAD_ASKS

BOOK = Book.read(STORE)
TABLE = judge(BOOK, asks=("blind", "stray")).certificate
WEAVING = judge(BOOK).certificate
# A book with one state.
ONE = Book(Hand("h", "put", begins="open"))


def spoilt(thing):
    """Values that differ from a tuple in one place, at any depth: a truth value, None, or a list for a tuple."""
    if isinstance(thing, bool) or thing is None:
        return []
    if isinstance(thing, int):
        return [bool(thing), None, str(thing)] if thing in (0, 1) else [None, str(thing)]
    if isinstance(thing, str):
        return [thing + " ", None, 0]
    found = [list(thing), thing + (thing,)]
    for at, part in enumerate(thing):
        found += [thing[:at] + (wrong,) + thing[at + 1:] for wrong in spoilt(part)]
    return found


class LookerTestCase(unittest.TestCase):
    def assert_let(self, book, thing, **asks):
        self.assertIs(is_certificate(book, thing, **asks), True, thing)

    def assert_not_let(self, book, thing, **asks):
        self.assertIs(is_certificate(book, thing, **asks), False, thing)


class TestKept(LookerTestCase):
    ASKS = ("blind", "stray")

    def test_what_judge_returns(self):
        self.assert_let(BOOK, TABLE, asks=self.ASKS)
        self.assert_let(BOOK, TABLE, asks=["blind"])
        self.assert_let(BOOK, TABLE, asks=("torn", "barred"))
        self.assert_not_let(BOOK, TABLE)
        self.assert_not_let(BOOK, TABLE, asks=("blind", "lost"))

    def test_another_order(self):
        self.assert_let(BOOK, ("kept", TABLE[1][::-1]), asks=self.ASKS)
        self.assert_let(BOOK, ("kept", TABLE[1][5:] + TABLE[1][:5]), asks=self.ASKS)

    def test_a_state_less(self):
        for at in range(len(TABLE[1])):
            self.assert_not_let(BOOK, ("kept", TABLE[1][:at] + TABLE[1][at + 1:]), asks=self.ASKS)
        self.assert_not_let(BOOK, ("kept", ()), asks=self.ASKS)
        self.assert_not_let(BOOK, ("kept", (first_state(BOOK),)), asks=self.ASKS)

    def test_a_state_twice(self):
        for at in (0, 10, -1):
            self.assert_not_let(BOOK, ("kept", TABLE[1] + (TABLE[1][at],)), asks=self.ASKS)

    def test_more_states_than_can_be_reached(self):
        state = settled(ONE, (-1, -1, -1, (), (), (("open", "", 0, 0),)))
        self.assert_let(ONE, ("kept", (first_state(ONE),)))
        self.assert_not_let(ONE, ("kept", (first_state(ONE), state)))
        more = [first_state(ONE), state]
        for one in more:
            more += [new for new in (moved(ONE, one, move) for move in moves_of(ONE, one)) if new not in more]
        self.assert_let(ONE, ("kept", tuple(more)), asks=("lost",))
        self.assert_not_let(ONE, ("kept", tuple(more[1:])), asks=("lost",))
        # The further states must be free of the faults, too.
        self.assert_not_let(ONE, ("kept", tuple(more)), asks=("stray",))

    def test_a_state_that_is_none(self):
        book = Book(Hand("h", "put", "done"), Sweep("a", "strike"), age=1)
        states = tuple(reached(book))
        self.assert_let(book, ("kept", states), asks=("blind",))
        unsettled = next(state[:4] + ((),) + state[5:] for state in states if state[4])
        for thing in any_values() + [unsettled]:
            self.assertFalse(is_state(book, thing))
            self.assert_not_let(book, ("kept", states + (thing,)), asks=("blind",))
            self.assert_not_let(book, ("kept", (thing,) + states[1:]), asks=("blind",))

    def test_wrong_in_one_place(self):
        """Truth values, None and lists, at any place."""
        book = Book(Hand("h", "put", "done", span=1), Sweep("a", "mark", "strike", alone=True), age=1, keep=1)
        certificate = judge(book, asks=("blind",), most=400).certificate
        self.assert_let(book, certificate, asks=("blind",))
        several = 0
        for wrong in spoilt(certificate[1][-1]) + spoilt(certificate[1][len(certificate[1]) // 2]):
            several += 1
            self.assert_not_let(book, ("kept", certificate[1][:-1] + (wrong,)), asks=("blind",))
        self.assertGreater(several, 60)

    def test_a_table_of_another_book(self):
        other = Book.read(STORE.replace("age 3", "age 2"))
        self.assert_not_let(other, TABLE, asks=self.ASKS)
        self.assert_not_let(BOOK, judge(other, asks=self.ASKS).certificate, asks=self.ASKS)

    def test_a_closed_table_with_a_fault(self):
        self.assert_not_let(BOOK, ("kept", tuple(reached(BOOK))), asks=("lost",))
        self.assert_not_let(ONE, ("kept", (first_state(ONE),)), asks=("lost", "barred"))


class TestBroken(LookerTestCase):
    def test_what_judge_returns(self):
        self.assert_let(BOOK, WEAVING)
        self.assert_let(BOOK, WEAVING, asks=("lost",))
        self.assert_let(BOOK, WEAVING, asks=["torn", "lost"])
        self.assert_not_let(BOOK, WEAVING, asks=("blind", "stray"))

    def test_one_that_is_not_shortest(self):
        moves = WEAVING[1]
        self.assert_let(BOOK, ("broken", (("tick",),) + moves))
        self.assert_let(BOOK, ("broken", (("tick",),) * 50 + moves + (("tick",),)))

    def test_a_move_less_or_wrong(self):
        moves = WEAVING[1]
        for at in range(len(moves)):
            self.assert_not_let(BOOK, ("broken", moves[:at]))
        self.assert_not_let(BOOK, ("broken", moves[1:]))
        self.assert_not_let(BOOK, ("broken", moves[::-1]))
        for thing in any_values() + [("copy",), ("free", "store", 3)]:
            for at in range(len(moves)):
                self.assert_not_let(BOOK, ("broken", moves[:at] + (thing,) + moves[at + 1:]))

    def test_wrong_in_one_place(self):
        book = Book.read(OWN)
        certificate = judge(book, asks=("torn",), most=400).certificate
        self.assert_let(book, certificate, asks=("torn",))
        for wrong in spoilt(certificate):
            self.assert_not_let(book, wrong, asks=("torn",))
        self.assert_not_let(book, ("broken", certificate[1] + (("tock",),)), asks=("torn",))

    def test_no_moves(self):
        self.assert_let(ONE, ("broken", ()), asks=("barred",))
        self.assert_not_let(ONE, ("broken", ()), asks=("lost",))
        self.assert_not_let(ONE, ("broken", []), asks=("barred",))


class TestAnyValue(LookerTestCase):
    def test_no_certificates(self):
        moves, states = WEAVING[1], TABLE[1]
        for thing in any_values() + [
                ("kept",), ("broken",), ("kept", states, ()), ("broken", moves, ()), ["kept", states],
                ("kept", list(states)), ("broken", list(moves)), ("kept", moves), ("broken", states), (moves, "broken"),
                ("Kept", states), (True, states), (0, states), ("", ()), ("kept", None), ("broken", None),
                ("kept", "kept"), ("broken", "tick"), ("kept", {state: True for state in states}), (None, moves)]:
            for asks in (("blind",), ("lost", "stray"), ["barred"]):
                self.assert_not_let(BOOK, thing, asks=asks)

    def test_wrong_asks(self):
        for asks in BAD_ASKS + any_values():
            for thing in (TABLE, WEAVING, None, ["kept"]):
                with self.assertRaises(BadAsks) as caught:
                    is_certificate(BOOK, thing, asks=asks)
                self.assertIs(caught.exception.asks, asks)

    def test_by_name(self):
        self.assertIs(is_certificate(book=BOOK, thing=WEAVING), True)
        parameter = inspect.signature(is_certificate).parameters["asks"]
        self.assertEqual((parameter.default, parameter.kind),
                         (("lost", "blind", "stray"), inspect.Parameter.KEYWORD_ONLY))
        self.assertEqual(is_certificate.__module__, module.__name__)

    def test_random_books(self):
        """Tables of all reached states, and walks to any of them, for each fault."""
        for make in (random_book, likely_book):
            for seed in range(40):
                book = make(seed)
                try:
                    states = reached(book, most=40)
                except TooMany:
                    continue
                with_fault = {fault for state in states for fault in plain.faults(book, state)}
                for fault in ("lost", "blind", "stray", "torn", "barred"):
                    self.assertIs(is_certificate(book, ("kept", tuple(states)), asks=(fault,)), fault not in with_fault)


if __name__ == "__main__":
    unittest.main()
