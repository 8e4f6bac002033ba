"""Points 3 and 28: walks spelled out as events of numbered runs, and events that are played."""

import inspect
import random
import unittest

from strayfiles import crowds as module
from strayfiles.books import Book
from strayfiles.crowds import played, spelled
from strayfiles.errors import BadEvent, BadWalk, TooMany
from strayfiles.handlers import Hand, Reader, Sweep
from strayfiles.judging import judge
from strayfiles.moves import moved, moves_of, reached, walked
from strayfiles.states import first_state
from strayfiles.world import World
from tests.samples import OWN, STORE, any_values, likely_book, random_book

# Hands that begin from each standing, sweeps called alone and not, a reader; shared names.
WIDE = Book(Hand("store", "row", "put", "done", span=2), Hand("late", "put if old", "drop", begins="open"),
            Sweep("broom", "strike if old", "clear", alone=True, span=1),
            Sweep("mop", "mark", "unmark if ripe", span=3),
            Reader("eye", "touch if old", "read", span=1), Hand("wipe", "drop", "strike", begins="done"),
            age=1, off=1, keep=1)


def places(world, content="c"):
    """Where runs and rows of a content really are: stages and posts, with the ticks since they began."""
    book, rows = world.book, world.rows.standings(content)
    found, busy = set(), set()
    for name, _, row, index, elapsed in [world.stands(run) for run in world.running(content)]:
        stage = (name, index, 0 if book[name].span is None else elapsed)
        if row in rows:
            busy.add(row)
            found.add((rows[row],) + stage)
        elif row >= 0 and book.names == "own":
            found.add(("none",) + stage)
        else:
            found.add(stage)
    return found | {(rows[row], "", 0, 0) for row in rows if row not in busy}


def random_walk(book, chance, length, kinds=()):
    """Moves of a walk, without some kinds of moves where there are others."""
    state, moves = first_state(book), []
    for _ in range(length):
        known = list(moves_of(book, state))
        move = chance.choice([one for one in known if one[0] not in kinds] or known)
        state = moved(book, state, move)
        moves.append(move)
    return moves


class CrowdsTestCase(unittest.TestCase):
    def assert_spelled(self, book, moves):
        """The events show the state to which the moves lead, with somebody at each of its places."""
        events = spelled(book, moves)
        world = played(book, events)
        state = walked(book, moves)[-1]
        self.assertEqual(world.shown("c"), state, (str(book), moves))
        here = places(world)
        for place in state[4] + state[5] + ((state[3],) if state[3] else ()):
            self.assertIn(place, here, (str(book), moves))
        return events


class TestSpelled(CrowdsTestCase):
    def test_no_moves(self):
        self.assertEqual(spelled(Book(Hand("h", "put", begins="open")), []), [])
        self.assertEqual(spelled(Book(Hand("h", "put")), ()), [("begin", "h", 0)])
        events = self.assert_spelled(Book.read(STORE), [])
        self.assertEqual(sorted(event[0] for event in events), ["begin", "begin", "step"])

    def test_ticks_and_copies(self):
        book = Book(Hand("h", "put", begins="open"), keep=1)
        self.assertEqual(spelled(book, [("tick",)] * 3), [("tick",)] * 3)
        book = Book(Hand("h", "done"), keep=1)
        events = self.assert_spelled(book, [("free", "h", 0), ("copy",), ("tick",)])
        self.assertEqual([event for event in events if event[0] in ("copy", "tick")], [("copy",), ("tick",)])

    def test_elapsed_ticks(self):
        """A run that is to be three ticks old must have begun before the ticks."""
        book = Book(Hand("h", "put", "touch", "done", span=3), age=3)
        moves = [("free", "h", 0), ("tick",), ("tick",), ("tick",)]
        events = self.assert_spelled(book, moves)
        self.assertIn(("h", 1, 3), walked(book, moves)[-1][4])
        self.assertLess(events.index(("begin", "h", 0)), events.index(("tick",)))

    def test_each_kind_of_move(self):
        """Walks in which each kind of move is made, with some and with all."""
        seen = set()
        for seed in range(60):
            kinds = ((), ("fall", "quit"), ("fall", "quit", "tick"))[seed % 3]
            moves = random_walk(WIDE, random.Random(seed), 40, kinds)
            self.assert_spelled(WIDE, moves)
            seen.update((move[0], move[-1] if move[-1] in ("some", "all") else "") for move in moves)
        self.assertEqual(seen, {("tick", ""), ("copy", ""), ("alone", ""), ("lone", ""), ("quit", ""), ("free", ""),
                                ("fall", "some"), ("fall", "all"), ("begin", "some"), ("begin", "all"),
                                ("step", "some"), ("step", "all")})

    def test_own_names(self):
        book = Book.read(OWN)
        for seed in range(40):
            self.assert_spelled(book, random_walk(book, random.Random(seed), 30, ((), ("fall", "tick"))[seed % 2]))

    def test_random_books(self):
        for make in (random_book, likely_book):
            for seed in range(120):
                book = make(seed)
                for length in (0, 2, 12):
                    self.assert_spelled(book, random_walk(book, random.Random(seed), length))
                self.assert_spelled(book, random_walk(book, random.Random(seed), 25, ("fall", "quit", "tick")))

    def test_every_state_that_moves_reach(self):
        """Some weaving of numbered runs shows each of them."""
        many = 0
        for book in [Book.read(STORE)] + [likely_book(seed) for seed in range(25)]:
            try:
                states = reached(book, most=60)
            except TooMany:
                continue
            walks = {first_state(book): []}
            waiting = list(walks)
            for state in waiting:
                for move in moves_of(book, state):
                    new = moved(book, state, move)
                    if new not in walks:
                        walks[new] = walks[state] + [move]
                        waiting.append(new)
            self.assertEqual(sorted(walks), states)
            for moves in walks.values():
                self.assert_spelled(book, moves)
                many += 1
        self.assertGreater(many, 200)

    def test_weavings_of_verdicts(self):
        for text in (STORE, OWN):
            book = Book.read(text)
            for asks in (("lost",), ("blind",), ("stray",), ("torn",)):
                verdict = judge(book, asks=asks, most=1000)
                if not verdict:
                    self.assert_spelled(book, verdict.weaving)

    def test_another_reading_for_the_copy(self):
        """Two runs stand before the old file; when the first one has touched it, it is young for the other."""
        book = Book(Hand("a", "put", "row"), Hand("b", "touch if old", "done if marked", begins="open"), age=1)
        moves = [("free", "a", 0), ("free", "a", 1), ("begin", "open", "b", "some"), ("begin", "open", "b", "all"),
                 ("tick",), ("step", "open", "b", 0, 0, "old", "all")]
        events = self.assert_spelled(book, moves)
        self.assertEqual(walked(book, moves)[-1][5], (("open", "b", 1, 0),))
        self.assertEqual([event[2] for event in events if event[0] == "step" and event[2]], ["old", "young"])
        # The condition does not hold for either, so both read the same.
        moves[-1] = ("step", "open", "b", 0, 0, "young", "all")
        book = Book(*book.handlers, age=1, off=1)
        events = self.assert_spelled(book, moves)
        self.assertEqual([event[2] for event in events if event[0] == "step" and event[2]], ["young", "young"])

    def test_copies_only_where_one_more_is_needed(self):
        def begun(book, moves):
            """The hands that begin, by their rows."""
            rows = {}
            for event in self.assert_spelled(book, moves):
                if event[0] == "begin":
                    rows.setdefault(event[2], []).append(event[1])
            return sorted(rows.values())
        book = Book(Hand("h", "put", "strike"))
        self.assertEqual(begun(book, []), [["h"]])
        # The one that put stands at the next statement, and another one where it began.
        self.assertEqual(begun(book, [("free", "h", 0)]), [["h"]] * 2)
        self.assertEqual(begun(book, [("free", "h", 0), ("free", "h", 1)]), [["h"]] * 3)
        book = Book(Hand("a", "row"), Hand("b", "mark", begins="open"), Hand("c", "mark", begins="open"))
        moves = [("free", "a", 0), ("begin", "open", "b", "some")]
        self.assertEqual(begun(book, moves), [["a"], ["a"], ["a", "b"]])
        moves.append(("begin", "open", "c", "some"))
        self.assertEqual(begun(book, moves), [["a"], ["a"], ["a", "b"], ["a", "c"]])
        # Now there are two idle rows, of which one can go.
        moves[2:] = [("fall", "open", "b", 0, 0, "all"), ("begin", "open", "c", "some")]
        self.assertEqual(begun(book, moves), [["a"], ["a"], ["a", "b", "c"]])
        moves[2:] = [("fall", "open", "b", 0, 0, "all"), ("begin", "open", "c", "all")]
        self.assertEqual(begun(book, moves), [["a"], ["a", "b", "c"], ["a", "c"]])

    def test_the_number_of_events(self):
        """Each move needs one run or row more at most, which does at most what the moves say."""
        book = Book(Hand("a", "row", "put", "done"), Hand("b", "touch", begins="done"),
                    Hand("c", "drop", begins="open"), Sweep("d", "strike"))
        for seed in range(6):
            for length in (30, 120, 300):
                moves = random_walk(book, random.Random(seed), length, ("fall",) if seed % 2 else ())
                events = self.assert_spelled(book, moves)
                rows = {event[2] for event in events if event[0] == "begin"}
                self.assertLessEqual(len(rows), length + 8)
                self.assertLess(len(events), length * length + 20)

    def test_the_number_of_events_does_not_double(self):
        book = Book(Hand("a", "row", "put", "done"), Hand("b", "touch", begins="done"), age=1)
        moves = [("free", "a", 0), ("step", "open", "a", 1, 0, "", "all"), ("step", "open", "a", 2, 0, "", "all")]
        begin, fall = ("begin", "done", "b", "some"), ("fall", "done", "b", 0, 0, "some")
        tick, step = ("tick",), ("step", "done", "b", 0, 0, "", "some")
        for loop in ([begin, fall], [begin, fall[:-1] + ("all",)], [begin, tick, step], [begin, step]):
            sizes = [len(self.assert_spelled(book, moves + loop * many)) for many in (1, 20, 40, 80)]
            for small, large in zip(sizes[1:], sizes[2:]):
                self.assertLess(large, 5 * small)

    def test_moves_that_change_nothing_need_nobody(self):
        book = Book(Hand("a", "row", "done"), Hand("b", "mark", begins="open"))
        moves = [("free", "a", 0), ("fall", "open", "a", 1, 0, "some"), ("begin", "open", "b", "some")]
        events = self.assert_spelled(book, moves)
        for more in (("free", "a", 0), ("fall", "open", "a", 1, 0, "some"), ("begin", "open", "b", "some"),
                     ("fall", "open", "b", 0, 0, "some")):
            self.assertEqual(self.assert_spelled(book, moves + [more] * 3), events)
        # Ticks and copies happen all the same.
        self.assertEqual(spelled(book, moves + [("tick",)] * 3)[-5:].count(("tick",)), 3)

    def test_runs_and_rows_are_numbered(self):
        moves = random_walk(WIDE, random.Random(3), 60)
        events = spelled(WIDE, moves)
        begun = 0
        for event in events:
            self.assertIsInstance(event, tuple)
            if event[0] == "begin":
                self.assertEqual(event[2] >= 0, WIDE[event[1]].kind == "hand")
                begun += 1
            elif event[0] in ("step", "fall"):
                self.assertTrue(0 <= event[1] < begun)
        own = Book.read(OWN)
        for event in spelled(own, random_walk(own, random.Random(3), 60)):
            if event[0] == "begin":
                self.assertEqual(event[2], 0 if own[event[1]].kind == "hand" else -1)

    def test_wrong_moves(self):
        book = Book.read(STORE)
        moves = judge(book).weaving
        for thing in any_values() + [("free", "store", 0), ["tick"], ("copy",), ("free", "store", True),
                                     ("lone", "old")]:
            for at in range(3):
                for kind in (list, tuple):
                    with self.assertRaises(BadWalk) as caught:
                        spelled(book, kind(moves[:at] + (thing,) + moves[at:]))
                    self.assertEqual(caught.exception.at, at)
        with self.assertRaises(BadWalk) as caught:
            spelled(book, moves + (None, ["tick"]))
        self.assertEqual(caught.exception.at, len(moves))

    def test_new_each_time(self):
        book = Book.read(STORE)
        moves = list(judge(book).weaving)
        events = spelled(book=book, moves=moves)
        self.assertIsInstance(events, list)
        copy = list(events)
        events.clear()
        self.assertEqual(spelled(book, tuple(moves)), copy)
        self.assertEqual(tuple(moves), judge(book).weaving)


class TestPlayed(unittest.TestCase):
    def test_a_new_world(self):
        book = Book.read(STORE)
        world = played(book=book, events=[])
        self.assertIsInstance(world, World)
        self.assertEqual((world.now, world.shown("c"), world.book), (0, first_state(book), book))
        events = [("begin", "store", 4), ("step", 0, ""), ("step", 0, ""), ("tick",), ("begin", "broom", -1)]
        world = played(book, events)
        self.assertEqual(world.running("c"), [0, 1])
        self.assertEqual(world.stands(0), ("store", "c", 4, 2, 1))
        self.assertEqual((world.files["c"], world.now), (1, 1))
        self.assertEqual(played(book, tuple(events)).shown("c"), world.shown("c"))
        self.assertEqual(len(events), 5)
        played(book, events).tick()
        self.assertEqual(world.now, 1)

    def test_all_readings(self):
        book = Book(Hand("h", "put", "stop if old", "done"), age=1, off=1)
        for reading, over in (("", False), ("young", False), ("old", True)):
            world = played(book, [("begin", "h", 0), ("step", 0, "old"), ("step", 0, reading)])
            self.assertEqual(world.running("c") == [], over)

    def test_wrong_events(self):
        book = Book.read(STORE)
        events = (("begin", "store", 0), ("step", 0, ""), ("tick",))
        wrong = [("step", 1, ""), ("step", 0, "new"), ("begin", "store", 0), ("begin", "store", -1),
                 ("begin", "broom", 0),
                 ("begin", "nobody", 0), ("fall", 1), ("fall", True), ("step", False, ""), ("tick", 0), ["tick"],
                 ("begin", "store", 10 ** 9 + 1), ("begin", "store", None), ("copied",)]
        for thing in any_values() + wrong:
            for kind in (list, tuple):
                with self.assertRaises(BadEvent) as caught:
                    played(book, kind(events + (thing, None)))
                self.assertEqual(caught.exception.at, 3, thing)
        with self.assertRaises(BadEvent) as caught:
            played(book, (None,) + events)
        self.assertEqual(caught.exception.at, 0)
        self.assertEqual(inspect.getmodule(played), module)
        self.assertEqual(inspect.getmodule(spelled), module)


if __name__ == "__main__":
    unittest.main()
