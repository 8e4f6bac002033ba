"""Points 31 and 32: untimed events, their bounds, timetables and possible ages."""

import inspect
import random
import unittest

from strayfiles import timing as module
from strayfiles.books import Book
from strayfiles.crowds import played, spelled
from strayfiles.errors import BadEvent
from strayfiles.handlers import Hand, Reader, Sweep
from strayfiles.times import Moment, Span
from strayfiles.timing import Times, Timetable, bounds, possible_ages, timetable, untimed
from tests import plain
from tests.samples import OWN, any_values, likely_book, random_book
from tests.test_crowds import WIDE, random_walk

HUGE = 10 ** 30 - 1

# A file that is put, and a sweep that strikes it if it is old.
BOOK = Book(Hand("alpha", "put", "done", span=1), Sweep("beta", "strike if old", span=2), Reader("eye", "read"), age=2)
PUT = (("begin", "alpha", 0), ("step", 0, ""))
STRIKE = PUT + (("begin", "beta", -1), ("step", 1, "old"))


def times_of(age, off=0, **spans):
    return Times(Span(age), Span(off), **{name: Span(span) for name, span in spans.items()})


def random_times(chance, book):
    """Times of any size for a book, mostly small ones."""
    sizes = [0, 0, 1, 2, 3, 5, 8, HUGE - chance.randint(0, 9)]
    spans = {name: chance.choice(sizes) for name in [one.name for one in book] + ["nobody"] if chance.random() < 0.6}
    return times_of(chance.choice(sizes), chance.choice([0, 0, 1, 2]), **spans)


def random_events(seed, make=likely_book, length=12):
    """Events without a clock, as they happen to be spelled for a book."""
    book = make(seed)
    moves = random_walk(book, random.Random(seed), length, ("fall", "quit") if seed % 2 else ())
    return book, untimed(book, spelled(book, moves))


def other_readings(seed, events):
    """The same events with other readings where one matters."""
    chance = random.Random(seed)
    return [(event[0], event[1], chance.choice(["old", "young"])) if event[0] == "step" and event[2] else event
            for event in events]


class TestTimes(unittest.TestCase):
    def test_by_name(self):
        times = Times(Span(9), Span(0), alpha=Span(1), beta=Span(2), gamma=Span(3), delta=Span(4))
        self.assertEqual((times.age, times.off), (Span(9), Span(0)))
        for at, name in enumerate(("alpha", "beta", "gamma", "delta"), 1):
            self.assertEqual(times.span_of(name), Span(at))
        self.assertIsNone(times.span_of("nobody"))
        self.assertEqual(times.span_of(name="alpha"), Span(1))
        other = Times(age=Span(HUGE), off=Span(2))
        self.assertEqual((other.age, other.off, other.span_of("alpha")), (Span(HUGE), Span(2), None))

    def test_names_that_look_like_others(self):
        times = Times(Span(1), Span(2), times=Span(3), spans=Span(4), name=Span(5), cls=Span(6))
        self.assertEqual([times.span_of(name).ticks for name in ("times", "spans", "name", "cls")], [3, 4, 5, 6])
        self.assertEqual((times.age.ticks, times.off.ticks, times.span_of("age")), (1, 2, None))

    def test_a_copy(self):
        spans = {"alpha": Span(1)}
        times = Times(Span(1), Span(0), **spans)
        spans["alpha"] = Span(7)
        self.assertEqual(times.span_of("alpha"), Span(1))

    def test_later_changes_to_the_spans(self):
        passed = [Span(3), Span(0), Span(1), Span(HUGE)]
        times = Times(passed[0], passed[1], alpha=passed[2], beta=passed[3])
        for span in passed:
            span.ticks = 7
        self.assertEqual((times.age, times.off), (Span(3), Span(0)))
        self.assertEqual((times.span_of("alpha"), times.span_of("beta")), (Span(1), Span(HUGE)))

    def test_one_span_for_all(self):
        span = Span(4)
        times = Times(span, span, alpha=span, beta=span)
        times.age.ticks = 5
        times.off.ticks = 6
        times.span_of("alpha").ticks = 7
        self.assertEqual((times.span_of("beta"), span), (Span(4), Span(4)))

    def test_answers_after_later_changes(self):
        for seed in range(20):
            book, events = random_events(seed)
            passed = {name: Span(seed + at) for at, name in enumerate(["age", "off"] + [one.name for one in book])}
            times = Times(**passed)
            answers = []
            for _ in range(2):
                table = timetable(book, events, times)
                answers.append((bounds(book, events, times), table.moments, table.ring,
                                possible_ages(book, events, times)))
                for span in passed.values():
                    span.ticks += 5
            self.assertEqual(*answers)


class TestUntimed(unittest.TestCase):
    def test_readings(self):
        book = Book(Hand("h", "put if nofile", "stop if old", "mark", "done if ripe", "stop if old"), age=1, off=1)
        begin = [("begin", "h", 0)]
        self.assertEqual(untimed(book, begin + [("step", 0, "old"), ("step", 0, "")]),
                         begin + [("step", 0, ""), ("step", 0, "young")])
        for reading in ("old", "young"):
            self.assertEqual(untimed(book, begin + [("step", 0, ""), ("step", 0, reading)]),
                             begin + [("step", 0, ""), ("step", 0, reading)])
        steps = [("step", 0, "")] * 5
        self.assertEqual([event[2] for event in untimed(book, begin + steps)[1:]], ["", "young", "", "young", "young"])
        self.assertEqual([event[2] for event in untimed(book, begin + steps[:3] + [("tick",)] + steps[3:])[1:]],
                         ["", "young", "", "old", "old"])

    def test_a_reading_that_does_not_matter(self):
        book = Book(Hand("h", "stop if old", "stop if ripe", "touch if young", "put"), age=1)
        for reading in ("", "old", "young"):
            self.assertEqual(untimed(book, [("begin", "h", 0)] + [("step", 0, reading)] * 4),
                             [("begin", "h", 0)] + [("step", 0, "")] * 4)

    def test_ticks_become_falls(self):
        book = Book(Hand("h", "put", span=1), Sweep("a", "mark", span=0), Hand("g", "put"), keep=1)
        events = [("begin", "h", 0), ("begin", "a", -1), ("begin", "g", 1), ("begin", "a", -1), ("copy",), ("tick",),
                  ("begin", "h", 2), ("tick",), ("step", 2, ""), ("copy",), ("tick",), ("tick",)]
        self.assertEqual(untimed(book, events),
                         [("begin", "h", 0), ("begin", "a", -1), ("begin", "g", 1), ("begin", "a", -1),
                          ("fall", 1), ("fall", 3), ("begin", "h", 2), ("fall", 0), ("step", 2, ""), ("fall", 4)])
        self.assertEqual(untimed(book, [("tick",), ("copy",), ("tick",)]), [])
        self.assertEqual(untimed(book, []), [])
        self.assertEqual(untimed(book, [("begin", "g", 0), ("fall", 0)]), [("begin", "g", 0), ("fall", 0)])

    def test_what_is_over_is_no_fall(self):
        book = Book(Hand("h", "put", span=0))
        events = [("begin", "h", 0), ("step", 0, ""), ("tick",)]
        self.assertEqual(untimed(book, events), events[:2])

    def test_wrong_events(self):
        events = (("begin", "alpha", 0), ("tick",), ("step", 0, ""))
        wrong = [("step", 0, "old "), ("step", 1, ""), ("fall", 1), ("begin", "alpha", 0), ("begin", "beta", 0),
                 ("begin", "eye", -1), ("begin", "alpha", -1), ["tick"], ("step", False, ""), ("tick", 1)]
        for thing in any_values() + wrong:
            for kind in (list, tuple):
                with self.assertRaises(BadEvent) as caught:
                    untimed(BOOK, kind(events + (thing, None)))
                self.assertEqual(caught.exception.at, 3)
        with self.assertRaises(BadEvent) as caught:
            untimed(BOOK, PUT + (("begin", "beta", -1), ("step", 1, "old")))
        self.assertEqual(caught.exception.at, 3)
        with self.assertRaises(BadEvent) as caught:
            untimed(BOOK, [None])
        self.assertEqual(caught.exception.at, 0)

    def test_new_each_time(self):
        events = [("begin", "alpha", 0), ("tick",)]
        found = untimed(book=BOOK, events=events)
        self.assertIsInstance(found, list)
        found.clear()
        self.assertEqual(untimed(BOOK, tuple(events)), [("begin", "alpha", 0)])
        self.assertEqual(len(events), 2)


class TestBounds(unittest.TestCase):
    def test_no_events(self):
        self.assertEqual(bounds(BOOK, [], times_of(1)), [])
        self.assertEqual(bounds(BOOK, (), times_of(HUGE, alpha=0)), [])

    def test_the_order(self):
        events = [("begin", "eye", -1)]
        with self.assertRaises(BadEvent):
            bounds(BOOK, events, times_of(1))
        events = [("begin", "alpha", row) for row in range(4)]
        self.assertEqual(bounds(BOOK, events, times_of(5)), [(1, 0, 0), (2, 1, 0), (3, 2, 0)])
        self.assertEqual(bounds(BOOK, events[:1], times_of(5)), [])

    def test_spans(self):
        order = [(1, 0, 0), (2, 1, 0), (3, 2, 0)]
        begin, other = ("begin", "alpha", 0), ("begin", "beta", -1)
        times = times_of(5, alpha=7)
        # Over by its last step, by a fall, or not over.
        self.assertEqual(bounds(BOOK, [begin, ("step", 0, ""), other, ("step", 0, "")], times),
                         sorted(order + [(0, 3, 7)]))
        self.assertEqual(bounds(BOOK, [begin, ("step", 0, ""), other, ("fall", 0)], times),
                         sorted(order + [(0, 2, 7)]))
        self.assertEqual(bounds(BOOK, [begin, ("step", 0, ""), other, other], times), sorted(order + [(0, 3, 7)]))
        self.assertEqual(bounds(BOOK, [begin], times), [(0, 0, 7)])
        self.assertEqual(bounds(BOOK, [begin, ("fall", 0)], times), [(0, 0, 7), (1, 0, 0)])
        self.assertEqual(bounds(BOOK, [other, begin], times), [(1, 0, 0), (1, 1, 7)])
        self.assertEqual(bounds(BOOK, [begin, ("fall", 0), begin], times),
                         [(0, 0, 7), (1, 0, 0), (2, 1, 0), (2, 2, 7)])

    def test_spans_of_the_book_and_of_nobody_mean_nothing(self):
        self.assertEqual(bounds(BOOK, PUT, times_of(5, nobody=1)), [(1, 0, 0)])
        self.assertEqual(bounds(BOOK, PUT, times_of(5, alpha=HUGE)), [(0, 1, HUGE), (1, 0, 0)])
        for age, off in ((0, 0), (6, 2)):
            book = Book(*BOOK.handlers, age=age, off=off)
            self.assertEqual(bounds(book, STRIKE, times_of(5, 1)), bounds(BOOK, STRIKE, times_of(5, 1)))

    def test_readings_of_the_file(self):
        order = [(1, 0, 0), (2, 1, 0), (3, 2, 0)]
        self.assertEqual(bounds(BOOK, STRIKE, times_of(9, 2)), sorted(order + [(3, 1, -7)]))
        young = STRIKE[:-1] + (("step", 1, "young"),)
        self.assertEqual(bounds(BOOK, young, times_of(9, 2)), sorted(order + [(1, 3, 10)]))
        self.assertEqual(bounds(BOOK, young, times_of(0)), sorted(order + [(1, 3, -1)]))
        self.assertEqual(bounds(BOOK, STRIKE, times_of(HUGE)), sorted(order + [(3, 1, -HUGE)]))

    def test_readings_of_the_mark(self):
        book = Book(Hand("h", "put", "mark", "stop if ripe", "put", "stop if unripe"))
        events = [("begin", "h", 0), ("step", 0, ""), ("step", 0, ""), ("step", 0, "young"), ("step", 0, ""),
                  ("step", 0, "old")]
        order = [(at + 1, at, 0) for at in range(5)]
        self.assertEqual(bounds(book, events, times_of(4, 1)), sorted(order + [(2, 3, 4), (5, 2, -3)]))

    def test_the_last_event_by_which_the_age_was_0(self):
        def since(*texts, readings):
            """The event from which the last statement reads the age as old."""
            book = Book(Hand("h", *texts))
            events = [("begin", "h", 0)] + [("step", 0, reading) for reading in readings]
            last = len(events) - 1
            found = [one for one in bounds(book, events, times_of(6)) if one[0] == last and one[2] == -6]
            self.assertEqual(len(found), 1)
            return found[0][1]
        self.assertEqual(since("put", "stop if old", readings=["", "old"]), 1)
        self.assertEqual(since("put", "put", "stop if old", readings=["", "", "old"]), 2)
        self.assertEqual(since("put", "touch", "stop if old", readings=["", "", "old"]), 2)
        self.assertEqual(since("put", "put if nofile", "stop if old", readings=["", "", "old"]), 1)
        self.assertEqual(since("put", "put if file", "stop if old", readings=["", "", "old"]), 2)
        self.assertEqual(since("put", "touch if nofile", "stop if old", readings=["", "", "old"]), 1)
        self.assertEqual(since("put", "mark", "stop if old", readings=["", "", "old"]), 1)
        self.assertEqual(since("put", "strike", "put", "stop if old", readings=["", "", "", "old"]), 3)
        self.assertEqual(since("touch", "put", "row", "stop if old", readings=["", "", "", "old"]), 2)
        self.assertEqual(since("mark", "mark", "stop if ripe", readings=["", "", "old"]), 1)
        self.assertEqual(since("mark", "put", "stop if ripe", readings=["", "", "old"]), 1)
        self.assertEqual(since("mark", "unmark", "mark", "stop if ripe", readings=["", "", "", "old"]), 3)
        self.assertEqual(since("mark", "mark if marked", "stop if ripe", readings=["", "", "old"]), 1)
        # An act under the condition is done after the reading.
        self.assertEqual(since("put", "touch if old", readings=["", "old"]), 1)
        self.assertEqual(since("put", "touch if old", "stop if old", readings=["", "young", "old"]), 1)
        self.assertEqual(since("put", "touch if young", "stop if old", readings=["", "young", "old"]), 2)

    def test_each_once_and_ascending(self):
        book = Book(Hand("h", "put", "stop if old"), Sweep("a", "touch"), names="own")
        events = [("begin", "h", 0), ("step", 0, ""), ("step", 0, "young")]
        times = times_of(1, 0, h=0)
        self.assertEqual(bounds(book, events, times), [(0, 2, 0), (1, 0, 0), (1, 2, 0), (2, 1, 0)])
        # The order says already what the reading says.
        self.assertEqual(bounds(book, events[:2] + [("step", 0, "old")], times_of(0)), [(1, 0, 0), (2, 1, 0)])

    def test_random_events(self):
        many = 0
        for make in (random_book, likely_book):
            for seed in range(120):
                book, events = random_events(seed, make)
                times = random_times(random.Random(seed), book)
                found = bounds(book, events, times)
                self.assertEqual(found, plain.bounds(book, events, times))
                many += len(found) - len(events)
        self.assertGreater(many, 200)

    def test_new_each_time(self):
        found = bounds(book=BOOK, events=list(PUT), times=times_of(1))
        self.assertIsInstance(found, list)
        found.clear()
        self.assertEqual(bounds(BOOK, PUT, times_of(1)), [(1, 0, 0)])


class TestTimetable(unittest.TestCase):
    def test_no_events(self):
        table = timetable(BOOK, [], times_of(5))
        self.assertIsInstance(table, Timetable)
        self.assertIs(bool(table), True)
        self.assertEqual((table.events, table.moments, table.ring, len(table), str(table)), ((), (), (), 0, ""))

    def test_the_least_moments(self):
        table = timetable(BOOK, list(STRIKE), times_of(9, 2))
        self.assertIs(bool(table), True)
        self.assertEqual(table.events, STRIKE)
        self.assertEqual(table.moments, tuple(Moment(at) for at in (0, 0, 0, 7)))
        self.assertEqual((table.ring, len(table)), ((), 4))
        self.assertEqual(str(table), "       0  begin alpha 0\n       0  step 0 -\n"
                                     "       0  begin beta -1\n       7  step 1 old")

    def test_spans_that_put_the_beginning_off(self):
        table = timetable(BOOK, STRIKE, times_of(9, beta=4))
        self.assertEqual([moment.at for moment in table.moments], [0, 0, 5, 9])
        table = timetable(BOOK, STRIKE, times_of(9, beta=0))
        self.assertEqual([moment.at for moment in table.moments], [0, 0, 9, 9])
        table = timetable(BOOK, STRIKE, times_of(HUGE, beta=1, alpha=HUGE))
        self.assertEqual([moment.at for moment in table.moments], [0, 0, HUGE - 1, HUGE])
        self.assertEqual(str(table).split("\n")[2:], [f"{HUGE - 1}  begin beta -1", f"{HUGE}  step 1 old"])

    def test_a_run_that_is_not_over(self):
        """The hand still runs when the file is struck, so it must be fast enough."""
        self.assertIs(bool(timetable(BOOK, STRIKE, times_of(9, alpha=9))), True)
        table = timetable(BOOK, STRIKE, times_of(9, alpha=8))
        self.assertIs(bool(table), False)
        self.assertEqual((table.events, table.moments, len(table)), (STRIKE, (), 4))
        self.assertEqual(sorted(table.ring), [(0, 3, 8), (1, 0, 0), (3, 1, -9)])
        lines = str(table).split("\n")
        self.assertEqual(sorted(lines), ["0 - 1 at most 0", "1 - 3 at most -9", "3 - 0 at most 8"])
        self.assertEqual(lines, [f"{j} - {i} at most {ticks}" for i, j, ticks in table.ring])

    def test_falls_give_time(self):
        events = PUT + (("fall", 0), ("begin", "beta", -1), ("step", 1, "old"))
        table = timetable(BOOK, events, times_of(9, alpha=8))
        self.assertEqual([moment.at for moment in table.moments], [0, 0, 0, 0, 9])
        self.assertEqual(str(table).split("\n")[2], "       0  fall 0")

    def test_ages_of_no_ticks(self):
        young = STRIKE[:-1] + (("step", 1, "young"),)
        table = timetable(BOOK, young, times_of(0))
        self.assertIs(bool(table), False)
        self.assertEqual(sorted(table.ring), [(1, 3, -1), (2, 1, 0), (3, 2, 0)])
        self.assertEqual([moment.at for moment in timetable(BOOK, young, times_of(1)).moments], [0] * 4)
        self.assertIs(bool(timetable(BOOK, young, times_of(0, 1))), True)

    def check(self, book, events, times):
        """Moments are the least ones that keep all bounds; a ring is one of bounds, with a sum below 0."""
        table = timetable(book, events, times)
        known = bounds(book, events, times)
        least = plain.moments(len(events), known)
        self.assertEqual(table.events, tuple(events))
        self.assertEqual(len(table), len(events))
        if least is None:
            self.assertIs(bool(table), False)
            self.assertEqual(table.moments, ())
            self.assertTrue(set(table.ring) <= set(known))
            self.assertLess(sum(ticks for _, _, ticks in table.ring), 0)
            for before, after in zip(table.ring, table.ring[1:] + table.ring[:1]):
                self.assertEqual(before[1], after[0])
            return False
        self.assertIs(bool(table), True)
        self.assertEqual((table.moments, table.ring), (tuple(Moment(at) for at in least), ()))
        for i, j, ticks in known:
            self.assertLessEqual(least[j] - least[i], ticks)
        return True

    def test_random_events(self):
        found = []
        for make in (random_book, likely_book):
            for seed in range(150):
                book, events = random_events(seed, make)
                for again in range(3):
                    chance = random.Random(10 * seed + again)
                    self.check(book, events, random_times(chance, book))
                    changed = other_readings(seed + again, events)
                    try:
                        bounds(book, changed, times_of(1))
                    except BadEvent:
                        continue
                    found.append(self.check(book, changed, random_times(chance, book)))
        self.assertGreater(found.count(False), 20)
        self.assertGreater(found.count(True), 100)

    def test_many_events(self):
        found = []
        for seed in range(2):
            events = untimed(WIDE, spelled(WIDE, random_walk(WIDE, random.Random(seed), 300, ("quit", "fall"))))
            self.assertGreater(len(events), 250)
            for times in (times_of(1, 1, store=2, broom=1, mop=3, eye=1), times_of(HUGE, mop=HUGE),
                          times_of(HUGE, eye=0)):
                found.append(self.check(WIDE, events, times))
        self.assertIn(True, found)
        self.assertIn(False, found)

    def test_what_a_clock_shows_is_possible(self):
        """Events that happen in a world with a clock are possible with its age, off and spans."""
        for make in (random_book, likely_book):
            for seed in range(60):
                book = make(seed)
                spans = {one.name: one.span for one in book if one.span is not None}
                events = spelled(book, random_walk(book, random.Random(seed), 20))
                table = timetable(book, untimed(book, events), times_of(book.age, book.off, **spans))
                self.assertTrue(table)
                played(book, events)

    def test_tuples_and_names(self):
        table = timetable(book=BOOK, events=list(PUT), times=times_of(1))
        self.assertEqual((table.events, type(table.moments), table.ring), (PUT, tuple, ()))
        self.assertEqual({"events", "moments", "ring"} - set(vars(table)), set())
        for method in ("__bool__", "__len__", "__str__"):
            self.assertIn(method, vars(Timetable))
        events = list(PUT)
        table = timetable(BOOK, events, times_of(1))
        events.clear()
        self.assertEqual(table.events, PUT)


class TestPossibleAges(unittest.TestCase):
    def ages(self, events, off=0, age=5, book=BOOK, **spans):
        found = possible_ages(book, events, times_of(age, off, **spans))
        if found is None:
            return None
        self.assertIsInstance(found, tuple)
        least, greatest = found
        return least.ticks, None if greatest is None else greatest.ticks

    def test_no_reading(self):
        self.assertEqual(self.ages([]), (0, None))
        self.assertEqual(self.ages(PUT, alpha=0), (0, None))
        self.assertEqual(possible_ages(BOOK, [], times_of(1)), (Span(0), None))

    def test_a_greatest_age(self):
        for off in (0, 1, 7, HUGE):
            for span in (0, 3, HUGE):
                self.assertEqual(self.ages(STRIKE, off, alpha=span), (0, span + off))
        self.assertEqual(self.ages(STRIKE), (0, None))
        self.assertEqual(self.ages(STRIKE, beta=0), (0, None))
        self.assertEqual(self.ages(STRIKE, beta=3, alpha=2), (0, 2))
        self.assertEqual(possible_ages(BOOK, STRIKE, times_of(1, 2, alpha=3)), (Span(0), Span(5)))

    def test_a_least_age(self):
        young = STRIKE[:-1] + (("step", 1, "young"),)
        self.assertEqual(self.ages(young), (1, None))
        self.assertEqual(self.ages(young, 1), (0, None))
        self.assertEqual(self.ages(young, alpha=0, beta=0), (1, None))

    # A file that is read as young and then as old, and one that is read as old and then as young.
    READ = Book(Hand("h", "put", "done"), Sweep("a", "stop if old", "stop if young"))

    def test_one_age_and_none(self):
        begin = (("begin", "h", 0), ("step", 0, ""), ("begin", "a", -1), ("begin", "a", -1))
        young, old = ("step", 1, "young"), ("step", 2, "old")
        self.assertEqual(self.ages(begin + (young, old), book=self.READ), (1, None))
        self.assertEqual(self.ages(begin + (young, old), book=self.READ, h=1), (1, 1))
        self.assertEqual(self.ages(begin + (young, old), book=self.READ, h=0), None)
        self.assertEqual(self.ages(begin + (young, old), book=self.READ, h=HUGE), (1, HUGE))
        # Old first: with off 0 it cannot be young any more.
        self.assertEqual(self.ages(begin + (old, young), book=self.READ), None)
        self.assertEqual(self.ages(begin + (old, young), 1, book=self.READ), (0, None))
        self.assertEqual(self.ages(begin + (old, young), 1, book=self.READ, h=0), (0, 1))
        self.assertIsNone(possible_ages(self.READ, begin + (old, young), times_of(1)))

    def test_the_age_of_the_times_means_nothing(self):
        for age in (0, 1, 9, HUGE):
            self.assertEqual(self.ages(STRIKE, 1, age, alpha=4), (0, 5))

    def test_ages_of_several_readings(self):
        """Two ages together must fit into one span."""
        book = Book(Hand("h", "put", "touch if old", "stop if old", "done"))
        events = [("begin", "h", 0), ("step", 0, ""), ("step", 0, "old"), ("step", 0, "old")]
        for span in (0, 1, 7, 8, HUGE):
            self.assertEqual(self.ages(events, book=book, h=span), (0, span // 2))
            self.assertEqual(self.ages(events, 3, book=book, h=span), (0, (span + 6) // 2))

    def test_a_least_age_between_two(self):
        """Three times an age less one tick must be as much as an age, which it is from one and a half on."""
        book = Book(Hand("h", "put", "mark", "touch if young", "touch if young", "skip if unripe", "stop if old"))
        readings = ["", "", "young", "young", "old", "young"]
        events = [("begin", "h", 0)] + [("step", 0, reading) for reading in readings]
        self.assertEqual(self.ages(events, book=book), (2, None))
        self.assertEqual(self.ages(events, 1, book=book), (0, None))
        self.assertEqual(self.ages(events, book=book, h=7), (2, 7))
        self.assertEqual(self.ages(events, book=book, h=2), (2, 2))
        self.assertEqual(self.ages(events, book=book, h=1), None)

    def test_random_events(self):
        kinds = set()
        for make in (random_book, likely_book):
            for seed in range(150):
                book, events = random_events(seed, make)
                events = other_readings(seed, events)
                chance = random.Random(seed)
                off = chance.choice([0, 0, 1, 2])
                spans = {one.name: chance.randint(0, 12) for one in book if chance.random() < 0.8}
                try:
                    found = self.ages(events, off, book=book, **spans)
                except BadEvent:
                    continue
                possible = [age for age in range(60)
                            if plain.moments(len(events),
                                             bounds(book, events, times_of(age, off, **spans))) is not None]
                if found is None:
                    self.assertEqual(possible, [])
                    kinds.add(None)
                else:
                    most = 59 if found[1] is None else found[1]
                    self.assertEqual(possible, list(range(found[0], most + 1)))
                    kinds.add((found[0] > 0, found[1] is None))
        self.assertTrue({None, (False, False), (False, True), (True, True)} <= kinds, kinds)

    def test_by_name(self):
        self.assertEqual(possible_ages(book=BOOK, events=list(PUT), times=times_of(1)), (Span(0), None))
        for thing in (Times, untimed, bounds, timetable, Timetable, possible_ages):
            self.assertEqual(inspect.getmodule(thing), module)


class TestWrongEvents(unittest.TestCase):
    """What is no untimed event, or cannot happen in a world without a clock."""

    def assert_wrong(self, book, events, at):
        for call in (bounds, timetable, possible_ages):
            for kind in (list, tuple):
                with self.assertRaises(BadEvent) as caught:
                    call(book, kind(events), times_of(1, alpha=1))
                self.assertEqual(caught.exception.at, at)

    def test_any_values(self):
        wrong = [("tick",), ("copy",), ("fall", 1), ("fall", 0.0), ("fall", False), ("step", 1, ""),
                 ("step", 0, "right"),
                 ("begin", "alpha", 0), ("begin", "alpha", -1), ("begin", "beta", 0), ("begin", "eye", -1),
                 ("begin", "nobody", 0), ("begin", "alpha", 10 ** 9 + 1), ["fall", 0], ("step", 0), ("alpha",)]
        for thing in any_values() + wrong:
            self.assert_wrong(BOOK, PUT + (thing, None), 2)
            self.assert_wrong(Book(Hand("h", "put")), (thing,) + PUT, 0)

    def test_readings(self):
        self.assert_wrong(BOOK, STRIKE[:-1] + (("step", 1, ""),), 3)
        for reading in ("old", "young"):
            self.assertTrue(bounds(BOOK, STRIKE[:-1] + (("step", 1, reading),), times_of(1)))
            # Where none matters each of the three may stand.
            self.assertEqual(bounds(BOOK, (PUT[0], ("step", 0, reading)), times_of(1)), [(1, 0, 0)])

    def test_all_readings_may_be_made(self):
        """There is no clock, and the age of the book means nothing."""
        for age in (0, 6):
            book = Book(*BOOK.handlers, age=age)
            for reading in ("old", "young"):
                events = STRIKE[:-1] + (("step", 1, reading),)
                self.assertEqual(len(bounds(book, events, times_of(1))), 4)

    def test_own_names(self):
        book = Book.read(OWN)
        self.assert_wrong(book, [("begin", "make", 0), ("begin", "make", 1)], 1)
        self.assert_wrong(book, [("begin", "make", 0), ("step", 0, ""), ("tick",)], 2)


if __name__ == "__main__":
    unittest.main()
