"""Points 29 and 30: ways, lives, and certificates that they end or do not."""

import inspect
import random
import unittest

from strayfiles import lives as module
from strayfiles.books import Book
from strayfiles.calm import round_moves
from strayfiles.errors import TooMany
from strayfiles.handlers import Hand, Sweep
from strayfiles.lives import Life, is_life, longest, ways
from strayfiles.moves import moved, moves_of, reached, walked
from strayfiles.states import first_state, settled
from tests import plain
from tests.samples import OWN, STORE, any_values, likely_book, random_book
from tests.test_looker import spoilt

OPEN, DONE = ("open", "", 0, 0), ("done", "", 0, 0)
TICK, ROUND = ("tick",), ("round",)

# Sweeps strike files that are old; runs that are too slow cannot put them again.
ENDS = Book.read(STORE)
# A hand may put the file again at any time.
ENDLESS = Book(Hand("h", "put", "done"), Sweep("a", "stop if named", "strike if old"), age=1)


def state_of(book, age=-1, mark=-1, copy=-1, alone=(), crowd=(), rows=()):
    return settled(book, (age, mark, copy, alone, crowd, tuple(sorted(rows))))


def made(book, state, moves):
    for move in moves:
        state = moved(book, state, move)
    return state


class TestWays(unittest.TestCase):
    def test_a_generator(self):
        state = state_of(ENDS, age=0)
        self.assertTrue(inspect.isgeneratorfunction(ways))
        self.assertTrue(inspect.isgenerator(ways(book=ENDS, stand=(state, 0))))

    def test_by_hand(self):
        book = Book(Hand("h", "put", "done"), Sweep("a", "strike if old"), age=1)
        state = state_of(book, age=0)
        self.assertEqual(list(ways(book, (state, 0))), [(ROUND, (state, 1))])
        later = state_of(book, age=1, crowd=state[4])
        self.assertEqual(list(ways(book, (state, 1))), [(ROUND, (state, 1)), (TICK, (later, 0))])
        # The round would strike the old file, as the free move of the sweep would.
        again = moved(book, later, ("free", "h", 0))
        self.assertEqual(list(ways(book, (later, 0))), [(("free", "h", 0), (again, 0))])
        self.assertEqual(list(ways(book, (later, 1))), [(("free", "h", 0), (again, 1)), (TICK, (later, 0))])

    def test_a_round_is_not_its_moves(self):
        """The state after the moves of the round alone matters, and it is rounded then."""
        book = Book(Hand("h", "put"), Sweep("a", "mark", "unmark", alone=True))
        state = state_of(book, age=0, alone=("a", 1, 0), mark=0)
        found = dict(ways(book, (state, 0)))
        self.assertEqual(found[ROUND], (made(book, state, round_moves(book, state)), 1))
        self.assertEqual(found[ROUND], (state_of(book, age=0, crowd=state[4]), 1))
        self.assertEqual(found["quit",], (state_of(book, age=0, mark=0), 0))
        self.assertEqual(found["lone", ""], (state_of(book, age=0), 0))
        self.assertEqual(list(found), [("lone", ""), ("quit",), ROUND])

    def test_no_ways_to_states_that_are_not_unnamed(self):
        book = Book(Hand("h", "put", "done"), Hand("g", "strike", begins="open"))
        state = state_of(book, age=0, rows=[("open", "g", 0, 0), ("open", "h", 1, 0)])
        found = dict(ways(book, (state, 1)))
        for move in moves_of(book, state):
            new = moved(book, state, move)
            unnamed = new[0] >= 0 and not any(post[0] == "done" for post in new[5])
            self.assertEqual(move in found, unnamed)
            if unnamed:
                self.assertEqual(found[move], (new, 0 if move == TICK else 1))
        self.assertNotIn(("step", "open", "g", 0, 0, "", "all"), found)
        self.assertNotIn(("step", "open", "h", 1, 0, "", "all"), found)
        self.assertIn(ROUND, found)

    def test_random_stands(self):
        many = 0
        for make in (random_book, likely_book):
            for seed in range(60):
                book = make(seed)
                try:
                    states = [state for state in reached(book, most=60) if plain.unnamed(state)]
                except TooMany:
                    continue
                for state in random.Random(seed).sample(states, min(3, len(states))):
                    for rounded in (0, 1):
                        found = list(ways(book, (state, rounded)))
                        self.assertEqual(found, sorted(plain.ways(book, (state, rounded)).items()))
                        many += len(found)
        self.assertGreater(many, 500)


class TestLongest(unittest.TestCase):
    def test_no_stands(self):
        for book in (Book(Hand("h", "done")), Book(Sweep("a", "mark")), Book(Hand("h", "put", begins="open"))):
            life = longest(book)
            self.assertIsInstance(life, Life)
            self.assertEqual(life.ticks, 0)
            self.assertEqual(life.certificate, ("ends", tuple(reached(book)), ()))

    def test_a_life_of_no_ticks(self):
        """The sweep strikes each file that nobody names, so no tick comes after a round."""
        book = Book(Hand("h", "put", "done"), Sweep("a", "stop if named", "strike"))
        life = longest(book)
        self.assertEqual(life.ticks, 0)
        kind, states, rows = life.certificate
        self.assertEqual((kind, list(states)), ("ends", reached(book)))
        self.assertEqual(rows, tuple((state, 0, 0) for state in states if plain.unnamed(state)))
        self.assertGreater(len(rows), 0)

    def test_a_life_of_some_ticks(self):
        life = longest(ENDS)
        self.assertEqual(life.ticks, 5)
        kind, states, rows = life.certificate
        self.assertEqual((kind, states), ("ends", tuple(reached(ENDS))))
        self.assertEqual(max(rank for _, _, rank in rows), 5)
        self.assertEqual(list(rows), sorted(rows))

    def test_how_the_life_depends_on_the_age_and_the_span(self):
        for age in range(4):
            for span in (0, 1, 2, 3):
                book = Book(Hand("h", "skip if file", "put", "done", span=span),
                            Sweep("a", "stop if named", "strike if old"),
                            age=age)
                rank = plain.ranks(book, reached(book, most=400))
                self.assertEqual(longest(book, most=400).ticks, max(rank.values()))
        lives = [longest(Book(Hand("h", "put", begins="none", span=0), Sweep("a", "strike if old"), age=age)).ticks
                 for age in range(3)]
        self.assertEqual(lives, [0, None, None])

    def test_a_life_without_a_greatest_number(self):
        life = longest(ENDLESS)
        self.assertIsNone(life.ticks)
        kind, moves, loop = life.certificate
        self.assertEqual(kind, "endless")
        self.assertIsInstance(moves, tuple)
        self.assertIsInstance(loop, tuple)
        self.assertIn(TICK, loop)
        stand = (walked(ENDLESS, moves)[-1], 1)
        self.assertTrue(plain.unnamed(stand[0]))
        start = stand
        for way in loop:
            stand = dict(ways(ENDLESS, stand))[way]
        self.assertEqual(stand, start)

    def test_no_sweeps(self):
        self.assertIsNone(longest(Book(Hand("h", "put"))).ticks)
        self.assertEqual(longest(Book(Hand("h", "done", "put"))).ticks, 0)

    def test_random_books(self):
        seen = set()
        for make in (random_book, likely_book):
            for seed in range(120):
                book = make(seed)
                try:
                    states = reached(book, most=60)
                except TooMany:
                    continue
                rank = plain.ranks(book, states)
                life = longest(book, most=60)
                self.assertTrue(is_life(book, life.certificate))
                seen.add(life.ticks)
                if rank is None:
                    self.assertIsNone(life.ticks)
                    self.assertEqual(life.certificate[0], "endless")
                else:
                    rows = sorted(stand + (most,) for stand, most in rank.items())
                    self.assertEqual(life.certificate, ("ends", tuple(states), tuple(rows)))
                    self.assertEqual(life.ticks, max([0, *rank.values()]))
        self.assertTrue({None, 0, 3} <= seen, seen)

    def test_most(self):
        many = len(reached(ENDS))
        self.assertEqual(longest(ENDS, most=many).ticks, 5)
        for book, most in ((ENDS, many - 1), (ENDS, 1), (ENDLESS, 1), (Book.read(OWN), 400)):
            with self.assertRaises(TooMany) as caught:
                longest(book, most=most)
            self.assertEqual(caught.exception.what, "states")
        with self.assertRaises(TooMany):
            longest(Book.read(OWN))
        parameter = inspect.signature(longest).parameters["most"]
        self.assertEqual((parameter.default, parameter.kind), (100, inspect.Parameter.KEYWORD_ONLY))
        self.assertEqual(longest(book=ENDS).ticks, 5)

    def test_new_each_time(self):
        one, other = longest(ENDS), longest(ENDS)
        self.assertIsNot(one, other)
        self.assertEqual(one.certificate, other.certificate)
        self.assertEqual(sorted(vars(one)), ["certificate", "ticks"])
        for thing in (longest, Life, ways, is_life):
            self.assertEqual(thing.__module__, module.__name__)


class LifeTestCase(unittest.TestCase):
    def assert_let(self, book, thing):
        self.assertIs(is_life(book, thing), True, thing)

    def assert_not_let(self, book, thing):
        self.assertIs(is_life(book, thing), False, thing)


class TestIsLifeThatEnds(LifeTestCase):
    BOOK = Book(Hand("h", "skip if file", "put", "done", span=1), Sweep("a", "stop if named", "strike if old"), age=1)
    STATES, ROWS = longest(BOOK).certificate[1:]

    def let(self, states, rows):
        return is_life(self.BOOK, ("ends", states, rows))

    def test_what_longest_returns(self):
        self.assert_let(self.BOOK, ("ends", self.STATES, self.ROWS))
        self.assertGreater(longest(self.BOOK).ticks, 0)
        self.assertEqual({rounded for _, rounded, _ in self.ROWS}, {0, 1})

    def test_another_order(self):
        self.assertIs(self.let(self.STATES[::-1], self.ROWS[::-1]), True)

    def test_greater_ranks(self):
        self.assertIs(self.let(self.STATES, tuple((one, rounded, 2 * rank + 5) for one, rounded, rank in self.ROWS)),
                      True)

    def test_a_rank_that_is_wrong(self):
        """A rank that is less breaks the way from there or one that leads there."""
        for at, (state, rounded, rank) in enumerate(self.ROWS):
            for wrong in (rank - 1, -1, True, False, None, str(rank), (rank,), [rank]):
                rows = self.ROWS[:at] + ((state, rounded, wrong),) + self.ROWS[at + 1:]
                self.assertIs(self.let(self.STATES, rows), False)

    def test_ticks_lead_to_a_smaller_rank(self):
        flat = tuple((state, rounded, 7) for state, rounded, _ in self.ROWS)
        self.assertIs(self.let(self.STATES, flat), False)

    def test_other_ways_may_lead_to_the_same_rank(self):
        book = Book(Hand("h", "put", "done"), Sweep("a", "stop if named", "strike"))
        _, states, rows = longest(book).certificate
        self.assert_let(book, ("ends", states, rows))
        self.assert_let(book, ("ends", states, tuple((state, rounded, 9) for state, rounded, _ in rows)))

    def test_a_row_less_or_twice(self):
        for at, row in enumerate(self.ROWS):
            self.assertIs(self.let(self.STATES, self.ROWS[:at] + self.ROWS[at + 1:]), False)
            self.assertIs(self.let(self.STATES, self.ROWS + (row,)), False)
            self.assertIs(self.let(self.STATES, self.ROWS + (row[:2] + (row[2] + 1,),)), False)
        self.assertIs(self.let(self.STATES, ()), False)

    def test_rows_of_states_that_are_not_reached(self):
        book = Book(Hand("h", "strike", begins="open"))
        self.assert_let(book, ("ends", (first_state(book),), ()))
        state = state_of(book, age=0, rows=[OPEN])
        rank = plain.ranks(book, [state])
        self.assertIsNone(rank)
        book = Book(Hand("h", "strike", begins="open"), Sweep("a", "strike"))
        state = state_of(book, age=0)
        self.assert_let(book, ("ends", (first_state(book),), ((state, 0, 0),)))
        self.assert_let(book, ("ends", (first_state(book),), ((state, 0, 3),)))
        # Each row must be a stand.
        for wrong in (first_state(book), state_of(book, age=0, rows=[DONE]), state[:5], None, list(state)):
            self.assert_not_let(book, ("ends", (first_state(book),), ((wrong, 0, 0),)))
        for rounded in (2, -1, True, False, None, "0"):
            self.assert_not_let(book, ("ends", (first_state(book),), ((state, rounded, 0),)))

    def test_states_must_be_closed(self):
        for at in range(len(self.STATES)):
            self.assertIs(self.let(self.STATES[:at] + self.STATES[at + 1:], self.ROWS), False)
            self.assertIs(self.let(self.STATES + (self.STATES[at],), self.ROWS), False)
        self.assertIs(self.let((), ()), False)

    def test_more_states(self):
        """Their stands must be there, too."""
        book = Book(Hand("h", "touch", begins="open"), Sweep("a", "strike"))
        states = [first_state(book), state_of(book, age=0)]
        self.assert_let(book, ("ends", tuple(states), ((states[1], 0, 0),)))
        self.assert_not_let(book, ("ends", tuple(states), ()))
        self.assert_not_let(book, ("ends", tuple(states), ((states[1], 1, 0),)))

    def test_wrong_in_one_place(self):
        for wrong in spoilt(self.ROWS[-1])[:80] + any_values():
            self.assertIs(self.let(self.STATES, self.ROWS[:-1] + (wrong,)), False)
        for wrong in spoilt(self.STATES[-1])[:80] + any_values():
            self.assertIs(self.let(self.STATES[:-1] + (wrong,), self.ROWS), False)


class TestIsLifeWithoutEnd(LifeTestCase):
    MOVES, LOOP = longest(ENDLESS).certificate[1:]

    def let(self, moves, loop):
        return is_life(ENDLESS, ("endless", moves, loop))

    def test_what_longest_returns(self):
        self.assertIs(self.let(self.MOVES, self.LOOP), True)
        self.assertIs(self.let(self.MOVES, self.LOOP * 3), True)
        self.assertIs(self.let((TICK,) + self.MOVES, self.LOOP), True)

    def test_a_loop_in_which_rounds_come_often(self):
        self.assertIs(self.let(self.MOVES, (ROUND, ROUND) + self.LOOP), True)
        self.assertIs(self.let(self.MOVES, self.LOOP + (ROUND,)), True)

    def test_without_a_tick(self):
        for loop in ((), (ROUND,), (ROUND, ROUND)):
            self.assertIs(self.let(self.MOVES, loop), False)

    def test_no_loop(self):
        self.assertGreater(len(self.LOOP), 2)
        for at in range(len(self.LOOP)):
            self.assertIs(self.let(self.MOVES, self.LOOP[:at]), False)
            self.assertIs(self.let(self.MOVES, self.LOOP[at + 1:]), False)
        # A stand that is not rounded is another one.
        book = Book(Hand("h", "put"))
        self.assert_let(book, ("endless", (("free", "h", 0),), (TICK, ROUND)))
        self.assert_not_let(book, ("endless", (("free", "h", 0),), (TICK,)))
        self.assert_not_let(book, ("endless", (("free", "h", 0),), (TICK, TICK, ROUND)))
        self.assert_not_let(book, ("endless", (), (TICK, ROUND)))
        self.assert_not_let(Book(Hand("h", "done")), ("endless", (("free", "h", 0),), (TICK, ROUND)))

    def test_wrong_moves_and_ways(self):
        for thing in any_values() + [("round", ), ("copy",), ["round"], ("free", "h", 1), ("tick", )]:
            if thing not in (ROUND, TICK):
                for at in range(len(self.LOOP)):
                    self.assertIs(self.let(self.MOVES, self.LOOP[:at] + (thing,) + self.LOOP[at:]), False)
            if thing != TICK:
                self.assertIs(self.let(self.MOVES + (thing,), self.LOOP), False)
        self.assertIs(self.let(self.MOVES[:-1], self.LOOP), False)
        for wrong in spoilt(("endless", self.MOVES, self.LOOP)):
            self.assert_not_let(ENDLESS, wrong)


class TestIsLifeOfAnyValue(LifeTestCase):
    def test_no_certificates(self):
        ends, endless = longest(ENDS).certificate, longest(ENDLESS).certificate
        self.assert_let(ENDS, ends)
        self.assert_let(ENDLESS, endless)
        self.assert_not_let(ENDLESS, ends)
        self.assert_not_let(ENDS, endless)
        for book in (ENDS, ENDLESS):
            for thing in any_values() + [ends[:2], endless[:2], list(ends), list(endless), ends + ((),),
                                         ("ends", list(ends[1]), ends[2]), ("ends", ends[1], list(ends[2])),
                                         ("endless", list(endless[1]), endless[2]), ("ends", None, None),
                                         ("endless", endless[1], list(endless[2])), ("endless", None, None),
                                         ("kept", ends[1]), ("end",) + ends[1:], (0,) + ends[1:],
                                         ("ends",) + endless[1:], ("endless",) + ends[1:]]:
                self.assert_not_let(book, thing)
        self.assertIs(is_life(book=ENDS, thing=ends), True)

    def test_random_books(self):
        books = [likely_book(seed) for seed in range(30)]
        found = []
        for book in books:
            try:
                found.append((book, longest(book, most=40).certificate))
            except TooMany:
                pass
        kinds = [certificate[0] for _, certificate in found]
        self.assertTrue({"ends", "endless"} <= set(kinds))
        for book, certificate in found:
            self.assert_let(book, certificate)


if __name__ == "__main__":
    unittest.main()
