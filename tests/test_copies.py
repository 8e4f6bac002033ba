"""Point 2: objects copy their arguments, and two objects share nothing."""

import unittest

from strayfiles import copies as module
from strayfiles.books import Book
from strayfiles.cares import Alone, Insert, Naming, Under, Waiting, Without, ages, cared, least_cares
from strayfiles.comparing import compare
from strayfiles.copies import copied
from strayfiles.crowds import played, spelled
from strayfiles.handlers import Hand, Reader, Sweep
from strayfiles.judging import judge
from strayfiles.lives import longest
from strayfiles.stages import Stages
from strayfiles.statements import Statement
from strayfiles.times import Moment, Span
from strayfiles.timing import Times, possible_ages, timetable, untimed
from strayfiles.world import World
from tests.samples import STORE, any_values

PLAIN = (int, str, bytes, type(None))


def held(thing):
    """All within a value that can be changed, itself included, by what Python calls its id."""
    if isinstance(thing, PLAIN):
        return {}
    found = {} if isinstance(thing, tuple) else {id(thing): thing}
    if isinstance(thing, dict):
        parts = list(thing) + list(thing.values())
    elif isinstance(thing, (list, tuple)):
        parts = thing
    else:
        parts = getattr(thing, "__dict__", {}).values()
    for part in parts:
        found.update(held(part))
    return found


def shared(one, other):
    """What can be changed and is held by both."""
    known = held(other)
    return [thing for at, thing in held(one).items() if at in known]


class TestCopied(unittest.TestCase):
    def test_any_values(self):
        for thing in any_values():
            with self.subTest(repr(thing)[:40]):
                copy = copied(thing)
                self.assertIs(type(copy), type(thing))
                self.assertEqual((copy, repr(copy)), (thing, repr(thing)))
                if type(thing) is object:
                    continue
                self.assertEqual(shared(copy, thing), [])

    def test_what_cannot_be_changed_stays(self):
        for thing in (0, 10 ** 30 - 1, True, False, None, "", "x" * 3000, b"x", ()):
            self.assertIs(copied(thing), thing)
        for text in ("(1, ('a', None), True, ())", "((((((((0,),),),),),),),)"):
            self.assertEqual(repr(copied(eval(text))), text)

    def test_lists_within_lists_and_tuples(self):
        deep = [2]
        some = [["a"], (1, [deep], ([],)), [[[[[[deep]]]]]]]
        copy = copied(some)
        text = repr(some)
        self.assertEqual(shared(copy, some), [])
        deep.append(3)
        some[0].append("b")
        some[1][2][0].append(None)
        some.append("c")
        self.assertEqual(repr(copy), text)
        # Nor does the copy change what was copied.
        text = repr(some)
        copy[1][1][0].append(4)
        copy.clear()
        self.assertEqual(repr(some), text)

    def test_dicts(self):
        some = {"a": [1], (1, "b"): {"c": [2]}, 3: None}
        copy = copied(some)
        text = repr(some)
        some["a"].append(2)
        some[1, "b"]["c"].clear()
        some["d"] = 0
        self.assertEqual(repr(copy), text)
        self.assertEqual(list(copy), ["a", (1, "b"), 3])

    def test_spans_and_moments(self):
        span, moment = Span(-3), Moment(10 ** 30)
        copy = copied([span, (moment, {"a": span})])
        span.ticks, moment.at = 5, 6
        self.assertEqual(copy, [Span(-3), (Moment(10 ** 30), {"a": Span(-3)})])

    def test_a_large_returned_value(self):
        book = Book.read(STORE)
        certificate = judge(book).certificate
        self.assertEqual(copied(certificate), certificate)
        self.assertEqual(copied([list(state) for state in certificate[1]]), [list(state) for state in certificate[1]])

    def test_where_it_is_defined(self):
        self.assertEqual(copied.__module__, module.__name__)


class TestSharing(unittest.TestCase):
    """Objects are made twice from the same arguments; they share nothing with these and with each other."""

    def check(self, make, *arguments):
        one, other = make(*arguments), make(*arguments)
        self.assertEqual(shared(one, other), [], make)
        for made in (one, other):
            self.assertEqual(shared(made, list(arguments)), [], make)
        # Or the three lines above would say nothing.
        self.assertGreater(len(held(one)), 0)

    def test_small_objects(self):
        self.check(Span, 3)
        self.check(Moment, 3)
        self.check(Statement, "put if old")
        for make in (Hand, Sweep, Reader):
            self.check(make, "a", "touch", "touch if old")
        stages = [("a", 0, 3), ("b", 1, 0), ("a", 0, 1)]
        self.check(Stages, stages)
        self.check(lambda one: one | Stages(stages), Stages(stages))
        self.check(lambda one: one & one, Stages(stages))
        self.check(lambda one: one - Stages(), Stages(stages))

    def test_books_and_worlds(self):
        handlers = [Hand("a", "put", "done"), Sweep("b", "strike", span=1), Reader("c", "read")]
        book = Book(*handlers)
        self.check(Book, *handlers)
        self.check(Book.read, str(book))
        self.check(book.with_age, 3)
        self.check(lambda one: one.with_spans(a=2), book)
        self.check(lambda one: one.with_spans(), book)
        self.check(World, book)
        self.check(played, book, [("begin", "a", 0), ("step", 0, "")])

    def test_changes_to_handlers_and_books(self):
        hand = Hand("a", "put", "done", span=1)
        book = Book(hand)
        world = World(book)
        longer = book.with_age(2)
        text = str(book)
        hand.name, hand.begins, hand.span, hand.statements[0].text = "b", "open", None, "row"
        self.assertEqual(str(book), text)
        book.age, book.handlers[0].span, book["a"].statements[1].text = 5, 3, "drop"
        self.assertEqual(str(world.book), text)
        self.assertEqual(str(longer), text.replace("age 0", "age 2"))

    def test_cares(self):
        some = [["a"], (1, [Span(2)]), {"b": []}]
        for make, many in ((Insert, 3), (Under, 3), (Without, 2), (Alone, 1), (Waiting, 1), (Naming, 1)):
            self.check(make, *[some] * many)
            self.check(make, *[(some, some)] * many)
            made = make(*[some] * many)
            fields = list(vars(made).values())
            for at, field in enumerate(fields):
                self.assertEqual(shared(field, fields[at + 1:]), [])
        book = Book.read(STORE)
        cares = [Waiting(4), Insert("store", 0, "put"), Without("store", 0)]
        self.check(cared, book, cares)
        self.check(cared, book, [])

    def test_times(self):
        self.check(Times, Span(3), Span(1))
        span = Span(4)
        self.check(lambda age, off, spans: Times(age, off, **spans), span, span, {"a": span, "b": span})
        times = Times(span, span, a=span, b=span)
        times.age.ticks, times.span_of("a").ticks = 5, 6
        self.assertEqual((times.off, times.span_of("b"), span), (Span(4), Span(4), Span(4)))

    def test_what_is_found(self):
        book = Book.read(STORE)
        offered = [Waiting(4), Without("store", 0)]
        for make in (judge, longest):
            self.check(lambda one, call=make: call(one, most=400), book)
        self.check(lambda one: ages(one, most=400), book)
        self.check(lambda one: compare(one, one, most=400), book)
        self.check(lambda one, cares: least_cares(one, cares, most=400), book, offered)
        events = [("begin", "store", 0), ("step", 0, ""), ("step", 0, ""), ("begin", "broom", -1)]
        times = Times(Span(3), Span(1), store=Span(2))
        self.check(timetable, book, events, times)
        self.check(possible_ages, book, events, times)
        self.check(untimed, book, events)
        self.check(spelled, book, [("free", "store", 1), ("tick",)])


if __name__ == "__main__":
    unittest.main()
