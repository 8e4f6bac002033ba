"""Points 3, 25 and 27: what `judge` says of a book."""

import inspect
import random
import unittest

from strayfiles import judging as module
from strayfiles.books import Book
from strayfiles.calm import faults
from strayfiles.errors import BadAsks, TooMany
from strayfiles.handlers import Hand, Reader, Sweep
from strayfiles.judging import Verdict, judge
from strayfiles.looker import is_certificate
from strayfiles.moves import reached, walked
from strayfiles.states import first_state
from tests import plain
from tests.samples import OWN, STORE, any_values, likely_book, random_book

FAULTS = ("lost", "blind", "stray", "torn", "barred")

# Values that are no list or tuple of one or more different faults.
BAD_ASKS = [(), [], "lost", ("lost", "lost"), ["stray", "torn", "stray"], ("lost", "endless"), ["Lost"], ("",),
            ("lost", None), (("lost",),), [["lost"]], {"lost": True}, {"lost"}, None, ("lost", 1), ("lost ",)]

# Its first fault, that a done row has no file, is seven moves away.
LATE = Book.read(STORE)
# A state with each number of rows, none of them with a fault but `stray`.
PUTS = Book(Hand("h", "put", "done", span=1), age=1)


class TestVerdict(unittest.TestCase):
    def test_kept(self):
        book = Book.read(STORE)
        verdict = judge(book, asks=("blind",))
        self.assertIsInstance(verdict, Verdict)
        self.assertIs(bool(verdict), True)
        states = reached(book)
        self.assertEqual(verdict.certificate, ("kept", tuple(states)))
        self.assertEqual((verdict.weaving, verdict.faults), ((), ()))
        self.assertEqual(len(verdict), len(states))
        self.assertEqual(list(verdict), states)

    def test_broken(self):
        verdict = judge(LATE)
        self.assertIs(bool(verdict), False)
        kind, moves = verdict.certificate
        self.assertEqual(kind, "broken")
        self.assertIsInstance(moves, tuple)
        self.assertEqual(verdict.weaving, moves)
        self.assertEqual(len(verdict), 7)
        self.assertEqual(len(moves), 7)
        states = walked(LATE, moves)
        self.assertEqual(list(verdict), states)
        self.assertEqual(verdict.faults, ("lost",))
        self.assertEqual(verdict.faults, faults(LATE, states[-1]))

    def test_all_faults_of_the_last_state(self):
        book = Book(Hand("h", "done"), Reader("r", "read"), keep=0)
        verdict = judge(book, asks=["torn"])
        self.assertEqual(verdict.faults, ("lost", "blind", "torn", "barred"))
        self.assertEqual(verdict.weaving, (("free", "h", 0), ("copy",)))

    def test_a_fault_at_once(self):
        book = Book(Hand("h", "put"))
        for most in (1, 2, 1000):
            verdict = judge(book, asks=("barred",), most=most)
            self.assertEqual(verdict.certificate, ("broken", ()))
            self.assertIs(bool(verdict), False)
            self.assertEqual((verdict.weaving, verdict.faults, len(verdict)), ((), ("barred",), 0))
            self.assertEqual(list(verdict), [first_state(book)])

    def test_no_sweeps_and_sweeps_called_alone(self):
        for alone in (False, True):
            for text, kept in (("strike if old", True), ("strike if young", False)):
                book = Book(Hand("h", "skip if file", "put"), Sweep("a", text, alone=alone), age=1)
                self.assertIs(bool(judge(book, asks=("stray",))), kept)
        book = Book(Hand("h", "skip if file", "put"), age=1)
        verdict = judge(book, asks=("stray",))
        self.assertEqual(verdict.weaving, (("free", "h", 1),))

    def test_new_each_time(self):
        one, other = judge(LATE), judge(LATE)
        self.assertIsNot(one, other)
        list(one).clear()
        self.assertEqual(list(one), list(other))
        self.assertEqual(one.certificate, other.certificate)
        self.assertNotEqual(one, 1)

    def test_properties(self):
        for name in ("weaving", "faults"):
            self.assertIsInstance(inspect.getattr_static(Verdict, name), property)
        self.assertIn("certificate", vars(judge(LATE)))
        for method in ("__bool__", "__len__", "__iter__"):
            self.assertIn(method, vars(Verdict))
        for thing in (judge, Verdict):
            self.assertEqual(thing.__module__, module.__name__)


class TestAsks(unittest.TestCase):
    def test_by_name_and_with_defaults(self):
        self.assertEqual(judge(book=LATE).certificate,
                         judge(LATE, asks=["lost", "blind", "stray"], most=100).certificate)
        parameters = inspect.signature(judge).parameters
        self.assertEqual((parameters["asks"].default, parameters["most"].default), (("lost", "blind", "stray"), 100))
        for name in ("asks", "most"):
            self.assertEqual(parameters[name].kind, inspect.Parameter.KEYWORD_ONLY)

    def test_each_fault(self):
        book = Book.read(OWN)
        for fault, length in (("lost", None), ("blind", 7), ("stray", 3), ("torn", 8), ("barred", None)):
            verdict = judge(book, asks=(fault,), most=1000)
            self.assertEqual(len(verdict), 535 if length is None else length)
            self.assertEqual(bool(verdict), length is None)
            if length is not None:
                self.assertIn(fault, verdict.faults)

    def test_wrong_asks(self):
        for asks in BAD_ASKS + any_values():
            with self.assertRaises(BadAsks) as caught:
                judge(LATE, asks=asks)
            self.assertIs(caught.exception.asks, asks)

    def test_wrong_asks_come_first(self):
        with self.assertRaises(BadAsks):
            judge(LATE, asks=("lost", "lost"), most=1)
        with self.assertRaises(TooMany):
            judge(LATE, asks=("lost",), most=1)

    def test_a_list_that_is_changed_later(self):
        asks = ["barred"]
        verdict = judge(Book(Hand("h", "put")), asks=asks)
        asks[0] = "lost"
        self.assertEqual(verdict.faults, ("barred",))
        self.assertEqual(asks, ["lost"])


class TestMost(unittest.TestCase):
    def judged(self, book, asks, most):
        try:
            return judge(book, asks=asks, most=most)
        except TooMany as wrong:
            self.assertEqual(wrong.what, "states")
            return None

    def test_kept(self):
        for book in (LATE, PUTS, Book.read(OWN)):
            many = len(reached(book, most=1000))
            asks = ("barred",)
            self.assertTrue(self.judged(book, asks, many))
            self.assertTrue(self.judged(book, asks, 1000))
            self.assertIsNone(self.judged(book, asks, many - 1))
            self.assertIsNone(self.judged(book, asks, 1))

    def test_the_states_of_the_last_level_do_not_count(self):
        sizes = [len(level) for level in plain.levels(LATE)]
        before = sum(sizes[:7])
        self.assertIsNotNone(self.judged(LATE, ("lost",), before))
        self.assertIsNone(self.judged(LATE, ("lost",), before - 1))
        self.assertGreater(sizes[7], 1)

    def test_a_fault_after_one_move(self):
        book = Book(Hand("h", "put"), Sweep("a", "mark"), Sweep("b", "mark", alone=True), keep=3)
        self.assertEqual(len(self.judged(book, ("stray",), 1)), 1)
        self.assertIsNone(self.judged(book, ("lost",), 1))

    def test_one_state_only(self):
        book = Book(Hand("h", "put", begins="open"))
        self.assertEqual(len(self.judged(book, ("lost",), 1)), 1)

    def test_random_books(self):
        seen = set()
        for make in (random_book, likely_book):
            for seed in range(70):
                book = make(seed)
                chance = random.Random(seed)
                asks = chance.sample(FAULTS, chance.choice([1, 1, 2, 3]))
                for most in (1, 5, 40):
                    kind, found = plain.judged(book, asks, most)
                    seen.add(kind)
                    verdict = self.judged(book, asks, most)
                    if kind == "many":
                        self.assertIsNone(verdict)
                    elif kind == "broken":
                        self.assertEqual((verdict.certificate[0], len(verdict)), ("broken", found))
                        self.assertTrue(set(asks) & set(verdict.faults))
                    else:
                        self.assertEqual(verdict.certificate, ("kept", tuple(sorted(found))))
                    if verdict is not None:
                        self.assertTrue(is_certificate(book, verdict.certificate, asks=asks))
        self.assertEqual(seen, {"many", "broken", "kept"})


if __name__ == "__main__":
    unittest.main()
