"""Points 35 and 36: looks, histories, and books that are alike or parted."""

import inspect
import itertools
import random
import unittest
from unittest import mock

from strayfiles import comparing as module
from strayfiles.books import Book
from strayfiles.comparing import Comparison, compare, has_history, history, is_comparison, look_of
from strayfiles.crowds import spelled
from strayfiles.errors import BadWalk, TooMany
from strayfiles.handlers import Hand, Sweep
from strayfiles.moves import reached, walked
from strayfiles.states import first_state, settled
from strayfiles.world import World
from tests import plain
from tests.samples import OWN, STORE, any_values, likely_book, random_book
from tests.test_crowds import random_walk
from tests.test_looker import spoilt

OPEN, DONE = ("open", "", 0, 0), ("done", "", 0, 0)
NONE, NAME, FILE, BOTH = (0, 0), (0, 1), (1, 0), (1, 1)
LOOKS = (NONE, NAME, FILE, BOTH)

STORE_BOOK = Book.read(STORE)
# The file comes first, or the row.
PUT_FIRST = Book(Hand("h", "put", "done"))
ROW_FIRST = Book(Hand("h", "done", "put"))
STILL = Book(Sweep("a", "mark"))


def likely_pairs(seeds=40, most=60):
    """Pairs of books that are not too large."""
    books = []
    for make in (likely_book, random_book):
        for seed in range(seeds):
            try:
                reached(make(seed), most=most)
                books.append(make(seed))
            except TooMany:
                pass
    return list(zip(books, books)) + list(zip(books, books[1:])) + list(zip(books, books[5:]))


class TestLooks(unittest.TestCase):
    def test_by_hand(self):
        for age, rows, look in ((-1, (), NONE), (0, (), FILE), (3, (), FILE), (-1, (OPEN,), NONE), (0, (OPEN,), FILE),
                                (-1, (DONE,), NAME), (2, (DONE, OPEN), BOTH), (0, (("done", "store", 1, 0),), BOTH),
                                (0, (("open", "store", 1, 0),), FILE)):
            state = settled(STORE_BOOK, (age, 1, -1, (), (), rows))
            self.assertEqual(look_of(state), look)
            self.assertEqual([type(part) for part in look_of(state=state)], [int, int])
        state = settled(Book.read(OWN), (0, -1, -1, (), (), (("none", "make", 0, 0),)))
        self.assertEqual(look_of(state), FILE)

    def test_random_states(self):
        for seed in range(40):
            try:
                for state in reached(random_book(seed), most=60):
                    self.assertEqual(look_of(state), plain.look(state))
            except TooMany:
                pass


class TestHistory(unittest.TestCase):
    def test_by_hand(self):
        self.assertEqual(history(PUT_FIRST, []), ())
        self.assertEqual(history(PUT_FIRST, [("tick",)] * 3), ())
        put, done = ("free", "h", 0), ("free", "h", 1)
        self.assertEqual(history(PUT_FIRST, [put]), (FILE,))
        self.assertEqual(history(PUT_FIRST, [("tick",), put, ("tick",), ("tick",), done, ("tick",)]), (FILE, BOTH))
        self.assertEqual(history(ROW_FIRST, [put]), (NAME,))

    def test_a_look_that_comes_again(self):
        book = Book(Hand("h", "put", "strike"), age=1)
        moves = [("free", "h", 0), ("free", "h", 1), ("tick",), ("free", "h", 0), ("tick",), ("free", "h", 1)]
        self.assertEqual(history(book, moves), (FILE, NONE, FILE, NONE))
        self.assertEqual(history(book=book, moves=tuple(moves[:3])), (FILE, NONE))

    def test_random_walks(self):
        for make in (random_book, likely_book):
            for seed in range(60):
                book = make(seed)
                moves = random_walk(book, random.Random(seed), 25, ("tick", "fall"))
                looks = [plain.look(state) for state in walked(book, moves)]
                expected = tuple(look for look, _ in itertools.groupby(looks))
                self.assertEqual(history(book, moves), expected[1:])
                self.assertEqual(expected[0], NONE)

    def test_in_the_engine(self):
        """What a stranger sees who looks after each event is the same."""
        for seed in range(60):
            book = likely_book(seed)
            moves = random_walk(book, random.Random(seed), 15, ("tick", "fall"))
            world, seen = World(book), [NONE]
            for event in spelled(book, moves):
                world.happen("c", [event])
                look = (int("c" in world.files), int(world.rows.is_named("c")))
                if look != seen[-1]:
                    seen.append(look)
            self.assertEqual(tuple(seen[1:]), history(book, moves))

    def test_wrong_moves(self):
        moves = (("free", "h", 0), ("tick",))
        for thing in any_values() + [("free", "h", 2), ["tick"], ("quit",), ("free", "h", False)]:
            for kind in (list, tuple):
                with self.assertRaises(BadWalk) as caught:
                    history(PUT_FIRST, kind(moves + (thing, None)))
                self.assertEqual(caught.exception.at, 2)


class TestHasHistory(unittest.TestCase):
    def test_by_hand(self):
        self.assertIs(has_history(PUT_FIRST, ()), True)
        self.assertIs(has_history(PUT_FIRST, (FILE,)), True)
        self.assertIs(has_history(PUT_FIRST, (FILE, BOTH)), True)
        self.assertIs(has_history(PUT_FIRST, (BOTH,)), False)
        self.assertIs(has_history(PUT_FIRST, (NAME,)), False)
        self.assertIs(has_history(PUT_FIRST, (FILE, BOTH, FILE)), False)
        self.assertIs(has_history(ROW_FIRST, (NAME, BOTH)), True)
        self.assertIs(has_history(book=STILL, thing=()), True)
        self.assertIs(has_history(STILL, (FILE,)), False)

    def test_looks_that_do_not_change(self):
        self.assertIs(has_history(PUT_FIRST, (NONE,)), False)
        self.assertIs(has_history(PUT_FIRST, (NONE, FILE)), False)
        self.assertIs(has_history(PUT_FIRST, (FILE, FILE)), False)
        self.assertIs(has_history(PUT_FIRST, (FILE, BOTH, BOTH)), False)

    def test_long_ones(self):
        book = Book(Hand("h", "put", "strike"))
        self.assertIs(has_history(book, (FILE, NONE) * 150), True)
        self.assertIs(has_history(book, (FILE, NONE) * 149 + (FILE, BOTH)), False)

    def test_all_short_ones(self):
        for make in (random_book, likely_book):
            for seed in range(25):
                book = make(seed)
                try:
                    reached(book, most=60)
                except TooMany:
                    continue
                known = plain.histories(book, 3)
                for many in range(4):
                    for thing in itertools.product(LOOKS, repeat=many):
                        self.assertIs(has_history(book, thing, most=60), thing in known)

    def test_any_values(self):
        for thing in any_values() + [[], [FILE], (list(FILE),), FILE, ((1,),), ((1, 0, 0),), ((True, 0),),
                                     ((1, False),),
                                     ((1, None),), (FILE, (1, True)), (FILE, [1, 1]), ((2, 0),), ((-1, 0),), ((1, 2),),
                                     ("10",), (FILE, None), {FILE: True}]:
            self.assertIs(has_history(PUT_FIRST, thing), thing == () and isinstance(thing, tuple), thing)

    def test_too_many_states(self):
        many = len(reached(STORE_BOOK))
        self.assertTrue(has_history(STORE_BOOK, (FILE,), most=many))
        for thing in ((FILE,), None, (), [1]):
            with self.assertRaises(TooMany) as caught:
                has_history(STORE_BOOK, thing, most=many - 1)
            self.assertEqual(caught.exception.what, "states")


class TestCompare(unittest.TestCase):
    def test_alike(self):
        found = compare(STILL, Book(Sweep("b", "unmark")))
        self.assertIsInstance(found, Comparison)
        self.assertIs(bool(found), True)
        self.assertEqual(found.parting, ())
        self.assertEqual(found.certificate, ("alike",
                                             ((tuple(reached(STILL)), (first_state(Book(Sweep("b", "unmark"))),)),)))

    def test_other_names_and_another_order(self):
        one = Book(Hand("a", "skip if file", "put", "done"), Hand("b", "drop", begins="done"), Sweep("c", "strike"))
        other = Book(Sweep("x", "strike"), Hand("y", "drop", begins="done"), Hand("z", "skip if file", "put", "done"))
        found = compare(one, other)
        self.assertTrue(found)
        kind, pairs = found.certificate
        self.assertEqual(kind, "alike")
        self.assertGreater(len(pairs), 3)
        self.assertEqual(list(pairs), sorted(pairs))
        for some, others in pairs:
            self.assertEqual((list(some), list(others)), (sorted(some), sorted(others)))

    def test_parted_by_the_first_look(self):
        found = compare(PUT_FIRST, ROW_FIRST)
        self.assertIs(bool(found), False)
        self.assertIn(found.certificate, (("parted", (NAME,), 1), ("parted", (FILE,), 0)))
        self.assertEqual(found.parting, found.certificate[1])
        self.assertEqual(compare(PUT_FIRST, STILL).certificate, ("parted", (FILE,), 0))
        self.assertEqual(compare(STILL, PUT_FIRST).certificate, ("parted", (FILE,), 1))

    def test_parted_later(self):
        other = Book(Hand("h", "put", "done"), Sweep("a", "stop if unnamed", "strike"))
        self.assertEqual(compare(PUT_FIRST, other).certificate, ("parted", (FILE, BOTH, NAME), 1))
        self.assertEqual(compare(other, PUT_FIRST).certificate, ("parted", (FILE, BOTH, NAME), 0))

    def test_ticks_matter_only_by_what_is_seen(self):
        one = Book(Hand("h", "put"), Sweep("a", "strike"), age=0)
        other = Book(Hand("h", "put"), Sweep("a", "strike"), age=6)
        self.assertTrue(compare(one, other))
        other = Book(Hand("h", "put"), Sweep("a", "strike if old"), age=6)
        self.assertTrue(compare(one, other))
        other = Book(Hand("h", "skip if file", "put"), Sweep("a", "strike if old"), age=6)
        self.assertTrue(compare(one, other))

    def expected(self, one, other, most=7):
        """The least number of looks that part two books, as far as it is at most so many."""
        for many in range(1, most + 1):
            if plain.histories(one, many) != plain.histories(other, many):
                return many
        return None

    def test_likely_books(self):
        lengths = set()
        for one, other in likely_pairs():
            found = compare(one, other, most=400)
            self.assertTrue(is_comparison(one, other, found.certificate))
            many = self.expected(one, other, 4)
            if many is None:
                self.assertTrue(found or len(found.parting) > 4)
            else:
                kind, seen, which = found.certificate
                self.assertEqual((kind, len(seen)), ("parted", many))
                had = [seen in plain.histories(book, many) for book in (one, other)]
                self.assertEqual(had, [which == 0, which == 1])
            lengths.add(len(found.parting))
        self.assertTrue({0, 1, 2, 3} <= lengths, lengths)

    def test_a_book_and_itself(self):
        for seed in range(30):
            book = likely_book(seed)
            try:
                found = compare(book, book)
            except TooMany:
                continue
            self.assertTrue(found)
            self.assertTrue(all(some == others for some, others in found.certificate[1]))

    def test_new_each_time(self):
        one, other = compare(PUT_FIRST, PUT_FIRST), compare(one=PUT_FIRST, other=PUT_FIRST)
        self.assertIsNot(one, other)
        self.assertEqual(one.certificate, other.certificate)
        self.assertIn("certificate", vars(one))
        self.assertIsInstance(inspect.getattr_static(Comparison, "parting"), property)
        self.assertIn("__bool__", vars(Comparison))
        for thing in (look_of, history, has_history, compare, Comparison, is_comparison):
            self.assertEqual(thing.__module__, module.__name__)


class TestMost(unittest.TestCase):
    def assert_too_many(self, what, call, *given, **named):
        with self.assertRaises(TooMany) as caught:
            call(*given, **named)
        self.assertEqual(caught.exception.what, what)

    def test_states(self):
        many = len(reached(STORE_BOOK))
        self.assertGreater(many, len(reached(PUT_FIRST)))
        for one, other in ((STORE_BOOK, STORE_BOOK), (PUT_FIRST, STORE_BOOK), (STORE_BOOK, PUT_FIRST)):
            compare(one, other, most=many)
            self.assertIs(is_comparison(one, other, None, most=many), False)
            self.assert_too_many("states", compare, one, other, most=many - 1)
            for thing in (None, ("alike", ()), ("parted", (FILE,), 0)):
                self.assert_too_many("states", is_comparison, one, other, thing, most=many - 1)

    def test_pairs(self):
        """A sweep that gets further whenever what it waits for is seen remembers what was seen."""
        hands = [Hand("p", "put"), Sweep("s", "strike"), Hand("d", "done"), Hand("r", "drop", begins="done")]
        one = Book(*hands, Sweep("m", "stop if nofile", "stop if file", "stop if nofile", "stop if file"))
        other = Book(*hands, Sweep("m", "stop if unnamed", "stop if named", "stop if unnamed", "stop if named"))
        self.assertEqual((len(reached(one)), len(reached(other))), (20, 18))
        self.assertEqual(len(compare(one, other).certificate[1]), 25)
        self.assertEqual(len(compare(one, other, most=25).certificate[1]), 25)
        for most in (20, 22, 24):
            self.assert_too_many("pairs", compare, one, other, most=most)
            self.assertTrue(is_comparison(one, other, compare(one, other).certificate, most=most))
        self.assert_too_many("states", compare, one, other, most=19)
        self.assert_too_many("states", compare, other, one, most=19)

    def test_pairs_that_are_reached_before_the_books_part(self):
        """Only those that shorter histories reach count; the bound of the states is left out here."""
        hands = [Hand("p", "put"), Hand("t", "strike"), Hand("d", "done"), Hand("r", "drop", begins="done")]
        one = Book(*hands, Sweep("m", "stop if nofile", "stop if file"), names="own")
        other = Book(*hands, Sweep("m", "stop if unnamed", "stop if named", "strike"), names="own")
        explored = module.explored
        with mock.patch.object(module, "explored", lambda book, most: explored(book, 400)):
            self.assertEqual(len(compare(one, other, most=400).parting), 5)
            self.assertEqual(len(compare(one, other, most=11).parting), 5)
            self.assert_too_many("pairs", compare, one, other, most=10)
            self.assertEqual(compare(PUT_FIRST, ROW_FIRST, most=1).certificate[0], "parted")

    def test_defaults(self):
        for call in (has_history, compare, is_comparison):
            parameter = inspect.signature(call).parameters["most"]
            self.assertEqual((parameter.default, parameter.kind), (100, inspect.Parameter.KEYWORD_ONLY))


class TestIsComparison(unittest.TestCase):
    ONE = Book(Hand("h", "put", "done"), Hand("g", "drop", "strike", begins="done"))
    OTHER = Book(Hand("a", "drop", "strike", begins="done"), Hand("b", "put", "done"))

    def assert_let(self, thing, one=ONE, other=OTHER):
        self.assertIs(is_comparison(one, other, thing), True, thing)

    def assert_not_let(self, thing, one=ONE, other=OTHER):
        self.assertIs(is_comparison(one, other, thing), False, thing)

    def test_alike(self):
        kind, pairs = compare(self.ONE, self.OTHER).certificate
        self.assertGreater(len(pairs), 2)
        self.assert_let((kind, pairs))
        self.assert_let((kind, pairs[::-1]))
        self.assert_not_let((kind, pairs), self.OTHER, self.ONE)
        for at, (some, others) in enumerate(pairs):
            rest = pairs[:at] + pairs[at + 1:]
            self.assert_not_let((kind, rest))
            self.assert_not_let((kind, pairs + (pairs[at],)))
            for wrong in ((others, some), (some, others, some), (some,), [some, others], (list(some), others),
                          (some, list(others)), (some, ()), ((), others), (some + some[-1:], others),
                          (some[::-1] + some, others),
                          (some[:-1] + (None,), others), (some, others[:-1] + (None,)), None, some):
                self.assert_not_let((kind, rest + (wrong,)))
        self.assert_not_let((kind, ()))

    def test_more_pairs(self):
        """A pair that no history leads to may be there, if all that follows is there."""
        kind, pairs = compare(STILL, STILL).certificate
        self.assertEqual(len(pairs), 1)
        first, marked = reached(STILL)
        for some in ((first,), (marked,), (first, marked)):
            for others in ((first,), (marked,), (first, marked)):
                more = () if (some, others) in pairs else ((some, others),)
                self.assert_let((kind, pairs + more), STILL, STILL)
        self.assert_not_let((kind, (((first,), (first,)),)), STILL, STILL)
        self.assert_not_let((kind, pairs + (((marked, first), (first,)),)), STILL, STILL)
        self.assert_not_let((kind, pairs + (((first, first), (first,)),)), STILL, STILL)

    def test_states_that_are_not_reached_or_have_other_looks(self):
        kind, pairs = compare(PUT_FIRST, PUT_FIRST).certificate
        self.assert_let((kind, pairs), PUT_FIRST, PUT_FIRST)
        states = reached(PUT_FIRST)
        strange = settled(PUT_FIRST, (-1, -1, -1, (), (), (OPEN,)))
        self.assertNotIn(strange, states)
        file = [state for state in states if look_of(state) == FILE]
        both = [state for state in states if look_of(state) == BOTH]
        for some, others in (((strange,), (strange,)), ((file[0],), (both[0],)), ((both[0],), (file[0],)),
                             ((file[0], both[0]), (file[0], both[0])), ((file[0],), (file[0], both[0]))):
            self.assert_not_let((kind, pairs + ((tuple(sorted(some)), tuple(sorted(others))),)), PUT_FIRST, PUT_FIRST)
        self.assert_let((kind, pairs + (((both[0],), tuple(both)),)) if ((both[0],), tuple(both)) not in pairs
                        else (kind, pairs), PUT_FIRST, PUT_FIRST)

    def test_wrong_in_one_place(self):
        kind, pairs = compare(PUT_FIRST, PUT_FIRST).certificate
        for wrong in spoilt((kind, pairs)):
            self.assert_not_let(wrong, PUT_FIRST, PUT_FIRST)

    def test_parted(self):
        other = Book(Hand("h", "put", "done"), Sweep("a", "stop if unnamed", "strike"))
        seen = (FILE, BOTH, NAME)
        self.assert_let(("parted", seen, 1), PUT_FIRST, other)
        self.assert_let(("parted", seen, 0), other, PUT_FIRST)
        # It need not be a shortest one, nor the only one.
        self.assert_let(("parted", seen + (BOTH,), 1), PUT_FIRST, other)
        self.assert_not_let(("parted", seen, 0), PUT_FIRST, other)
        self.assert_not_let(("parted", seen, 1), other, PUT_FIRST)
        # Both have it, or neither.
        for which in (0, 1):
            self.assert_not_let(("parted", seen[:2], which), PUT_FIRST, other)
            self.assert_not_let(("parted", (), which), PUT_FIRST, other)
            self.assert_not_let(("parted", (NAME,), which), PUT_FIRST, other)
            self.assert_not_let(("parted", (FILE, FILE), which), PUT_FIRST, other)
            self.assert_not_let(("parted", None, which), PUT_FIRST, other)
        for which in (True, False, None, "1", 2, -1, (1,), [1]):
            self.assert_not_let(("parted", seen, which), PUT_FIRST, other)
        for wrong in spoilt(("parted", seen, 1)):
            self.assert_not_let(wrong, PUT_FIRST, other)

    def test_alike_is_not_said_of_parted_books(self):
        for one, other in ((PUT_FIRST, ROW_FIRST), (STILL, PUT_FIRST), (PUT_FIRST, STILL)):
            first = (tuple(state for state in reached(one) if look_of(state) == NONE),
                     tuple(state for state in reached(other) if look_of(state) == NONE))
            self.assert_not_let(("alike", (first,)), one, other)
            self.assert_not_let(("alike", ()), one, other)

    def test_any_values(self):
        alike = compare(self.ONE, self.OTHER).certificate
        for thing in any_values() + [alike[:1], alike + (0,), list(alike), ("alike", list(alike[1])), ("alike", None),
                                     ("parted", (FILE,)), ("parted",), ("parted", (FILE,), 0, 0),
                                     ["parted", (FILE,), 0],
                                     ("Alike", alike[1]), (True, alike[1]), ("alike", alike[1], 0),
                                     ("parted", alike[1]),
                                     ("alike", "alike"), (0, (FILE,), 0), ("kept", ())]:
            self.assert_not_let(thing)
        self.assertIs(is_comparison(one=self.ONE, other=self.OTHER, thing=alike), True)


if __name__ == "__main__":
    unittest.main()
