"""Points 33 and 34: cares, books with cares, sets that are enough and least, and least ages."""

import inspect
import itertools
import random
import unittest

from strayfiles import cares as module
from strayfiles.books import Book
from strayfiles.cares import (Alone, Care, Choice, Insert, Naming, Under, Waiting, Without, ages, cared, least_age,
                              least_cares)
from strayfiles.errors import BadAsks, BadCare, TooMany
from strayfiles.handlers import Hand, Reader, Sweep
from strayfiles.judging import Verdict, judge
from strayfiles.lives import is_life, longest
from strayfiles.looker import is_certificate
from strayfiles.moves import reached
from strayfiles.times import Span
from tests.samples import OWN, STORE, any_values, likely_book
from tests.test_judging import BAD_ASKS

BOOK = Book(Hand("store", "skip if file", "put", "done", span=2), Sweep("sweep", "stop if named", "strike"),
            Reader("eye", "touch", "read"), Sweep("lone", "mark", alone=True), age=3)

# One value of each class, and how it is written.
ALL = [
    (Insert("store", 1, "put"), "Insert('store', 1, 'put')"),
    (Under("sweep", 1, "old"), "Under('sweep', 1, 'old')"),
    (Without("sweep", 0), "Without('sweep', 0)"),
    (Alone("sweep"), "Alone('sweep')"),
    (Waiting(4), "Waiting(4)"),
    (Naming("own"), "Naming('own')"),
]


def all_with(thing):
    """One care of each class with this value as each of its fields."""
    return [Insert(thing, thing, thing), Under(thing, thing, thing), Without(thing, thing), Alone(thing),
            Waiting(thing), Naming(thing)]


def with_statements(name, *texts):
    """The lines of the book in which this handler has these statements."""
    lines, here = [], False
    for line in BOOK.lines():
        if line.split()[0] in ("book", "hand", "sweep", "reader"):
            here = line.split()[1] == name
            lines.append(line)
            lines += texts if here else ()
        elif not here:
            lines.append(line)
    return lines


class TestCares(unittest.TestCase):
    def test_fields(self):
        self.assertEqual(vars(Insert("a", 1, "put")), {"name": "a", "at": 1, "text": "put"})
        self.assertEqual(vars(Under(name="a", at=1, condition="old")), {"name": "a", "at": 1, "condition": "old"})
        self.assertEqual(vars(Without(at=1, name="a")), {"name": "a", "at": 1})
        self.assertEqual(vars(Alone(name="a")), {"name": "a"})
        self.assertEqual(vars(Waiting(age=3)), {"age": 3})
        self.assertEqual(vars(Naming(names="own")), {"names": "own"})
        for thing in any_values():
            for care in all_with(thing):
                for field in vars(care).values():
                    self.assertEqual((field, repr(field)), (thing, repr(thing)))

    def test_later_changes_to_what_was_passed(self):
        inner, deep, span = ["a"], [2], Span(3)
        some = [inner, (1, [deep]), span, {"b": inner}]
        cares = all_with(some) + all_with((some,))
        texts = [repr(care) for care in cares]
        same = all_with([["a"], (1, [[2]]), Span(3), {"b": ["a"]}])
        inner.append("b")
        deep.clear()
        span.ticks = 4
        some.append("c")
        self.assertEqual([repr(care) for care in cares], texts)
        self.assertEqual(cares[:len(same)], same)
        for care in same:
            for field in vars(care).values():
                self.assertEqual(repr(field), "[['a'], (1, [[2]]), Span(3), {'b': ['a']}]")

    def test_fields_share_nothing(self):
        some = [[]]
        for care in all_with(some):
            first, *others = vars(care).values()
            first[0].append(1)
            for field in others + [some]:
                self.assertEqual(field, [[]])

    def test_classes(self):
        for care, _ in ALL:
            kind = care.__class__
            self.assertIsInstance(care, Care)
            self.assertEqual(kind.__bases__, (Care,))
            for method in ("__init__", "__eq__", "__repr__"):
                self.assertIn(method, vars(kind))
            self.assertEqual(kind.__module__, module.__name__)
        self.assertEqual(Care.__bases__, (object,))

    def test_written(self):
        for care, text in ALL:
            self.assertEqual(repr(care), text)
            self.assertEqual(eval(text), care)
        self.assertEqual(repr(Insert(None, True, ["x"])), "Insert(None, True, ['x'])")
        self.assertEqual(repr(Waiting((1,))), "Waiting((1,))")

    def test_equal(self):
        for at, (care, _) in enumerate(ALL):
            for other, (one, text) in enumerate(ALL):
                self.assertEqual(care == eval(text), at == other)
                self.assertEqual(care != eval(text), at != other)
            for thing in any_values() + [Care()]:
                self.assertFalse(care == thing)
        for one, other in ((Insert("a", 1, "put"), Insert("a", 1, "done")),
                           (Insert("a", 1, "put"), Insert("a", 2, "put")),
                           (Insert("a", 1, "put"), Insert("b", 1, "put")),
                           (Under("a", 1, "old"), Under("a", 1, "file")),
                           (Under("a", 1, "old"), Under("a", 0, "old")), (Under("a", 1, "old"), Under("b", 1, "old")),
                           (Without("a", 1), Without("a", 2)), (Without("a", 1), Without("b", 1)),
                           (Alone("a"), Alone("b")), (Waiting(1), Waiting(2)), (Naming("own"), Naming("shared")),
                           (Alone("own"), Naming("own"))):
            self.assertFalse(one == other)

    def test_equal_as_python_says(self):
        self.assertEqual(Waiting(1), Waiting(True))
        self.assertEqual(Without("a", 0), Without("a", False))
        self.assertEqual(Naming([1, (2,)]), Naming([True, (2,)]))
        self.assertNotEqual(Naming([1]), Naming((1,)))


class Old:
    """What is written as a condition, but is no string."""

    def __str__(self):
        return "old"

    __repr__ = __str__


class CaredTestCase(unittest.TestCase):
    def assert_cared(self, cares, lines, book=BOOK):
        for kind in (list, tuple):
            self.assertEqual(cared(book, kind(cares)).lines(), lines)

    def assert_wrong(self, cares, at, book=BOOK):
        for kind in (list, tuple):
            with self.assertRaises(BadCare) as caught:
                cared(book, kind(cares))
            self.assertEqual(caught.exception.at, at, cares)


class TestCared(CaredTestCase):
    def test_no_cares(self):
        self.assert_cared([], BOOK.lines())
        self.assertIsNot(cared(BOOK, []), BOOK)

    def test_insert(self):
        texts = ["skip if file", "put", "done"]
        for at in range(4):
            self.assert_cared([Insert("store", at, "row")], with_statements("store", *texts[:at], "row", *texts[at:]))
        self.assert_cared([Insert("eye", 0, "stop if nofile")],
                          with_statements("eye", "stop if nofile", "touch", "read"))
        self.assert_cared([Insert("sweep", 2, "clear")], with_statements("sweep", "stop if named", "strike", "clear"))

    def test_several_at_one_place(self):
        cares = [Insert("store", 1, "row"), Insert("store", 1, "mark"), Insert("store", 0, "unmark")]
        for order in itertools.permutations(cares):
            texts = [care.text for care in order if care.at == 1]
            self.assert_cared(order, with_statements("store", "unmark", "skip if file", *texts, "put", "done"))
        self.assert_cared([Insert("store", 3, "row"), Insert("store", 3, "row")],
                          with_statements("store", "skip if file", "put", "done", "row", "row"))

    def test_under(self):
        self.assert_cared([Under("sweep", 1, "old")], with_statements("sweep", "stop if named", "strike if old"))
        self.assert_cared([Under("store", 2, "marked")],
                          with_statements("store", "skip if file", "put", "done if marked"))
        self.assert_cared([Under("eye", 0, "file")], with_statements("eye", "touch if file", "read"))

    def test_without(self):
        self.assert_cared([Without("store", 0)], with_statements("store", "put", "done"))
        self.assert_cared([Without("store", 2), Without("store", 0)], with_statements("store", "put"))

    def test_indexes_are_those_before_any_care(self):
        cares = [Insert("store", 0, "row"), Without("store", 0), Under("store", 1, "nofile"),
                 Insert("store", 1, "mark"),
                 Insert("store", 3, "drop"), Without("store", 2)]
        for seed in range(10):
            order = random.Random(seed).sample(cares, len(cares))
            self.assert_cared(order, with_statements("store", "row", "mark", "put if nofile", "drop"))

    def test_alone(self):
        self.assert_cared([Alone("sweep")], str(BOOK).replace("sweep sweep", "sweep sweep alone").split("\n"))
        book = Book(Sweep("a", "mark", span=2), Sweep("b", "mark"))
        self.assert_cared([Alone("a")], ["book shared age 0", "sweep a alone span 2", "mark", "sweep b", "mark"], book)
        self.assert_cared([Alone("b"), Alone("a"), Insert("a", 0, "clear")],
                          ["book shared age 0", "sweep a alone span 2", "clear", "mark", "sweep b alone", "mark"],
                          book)

    def test_waiting_and_naming(self):
        for age in range(7):
            self.assert_cared([Waiting(age)], [f"book shared age {age}"] + BOOK.lines()[1:])
        self.assert_cared([Naming("own"), Waiting(3)], ["book own age 3"] + BOOK.lines()[1:])
        self.assert_cared([Naming("shared")], BOOK.lines())

    def test_all_else_stays(self):
        book = Book(Hand("a", "put", begins="done", span=0), Hand("b", "put", begins="open"),
                    Reader("r", "read", span=3),
                    names="own", age=2, off=1, keep=2)
        self.assert_cared([Insert("a", 0, "mark"), Insert("b", 1, "mark"), Without("r", 0), Insert("r", 0, "read")],
                          ["book own age 2 off 1 keep 2", "hand a from done span 0", "mark", "put",
                           "hand b from open", "put",
                           "mark", "reader r span 3", "read"], book)

    def test_arguments_are_not_changed(self):
        cares = [Insert("store", 0, "row"), Alone("sweep")]
        lines = BOOK.lines()
        book = cared(book=BOOK, cares=cares)
        self.assertEqual((BOOK.lines(), cares), (lines, [Insert("store", 0, "row"), Alone("sweep")]))
        cares[0].text = "mark"
        self.assertIn("row", book.lines())


class TestWrongCares(CaredTestCase):
    def assert_all_wrong(self, cares, book=BOOK):
        for care in cares:
            self.assert_wrong([care], 0, book)
            self.assert_wrong([Waiting(1), Naming("own"), care, None], 2, book)

    def test_no_cares(self):
        self.assert_all_wrong(any_values() + [Care(), "Alone('sweep')", Alone, ("Alone", "sweep"), [Alone("sweep")]])

    def test_no_handler(self):
        for name in any_values() + ["nobody", "Store", "store ", ("store",), ["store"]]:
            self.assert_all_wrong([Insert(name, 0, "touch"), Under(name, 1, "file"), Without(name, 0), Alone(name)])

    def test_no_index(self):
        for at in any_values() + ["0", (0,), -1]:
            if at not in (0, 1, 2) or isinstance(at, bool):
                self.assert_all_wrong([Insert("store", at, "put"), Under("store", at, "file"), Without("store", at)])
        self.assert_all_wrong([Insert("store", 4, "put"), Insert("store", -1, "put"), Under("store", 3, "marked"),
                               Without("store", 3), Without("eye", 2), Without("store", True),
                               Insert("store", True, "put"),
                               Under("store", True, "nofile"), Under("store", -1, "marked")])

    def test_no_statement(self):
        for text in any_values() + ["put ", "strike if rows", "read", "clear", "stop", "put if mine"]:
            self.assert_all_wrong([Insert("store", 0, text)])
        self.assert_all_wrong([Insert("sweep", 0, "put"), Insert("sweep", 0, "stop if mine"),
                               Insert("eye", 0, "strike"),
                               Insert("eye", 2, "mark"), Insert("sweep", 1, "read")])

    def test_no_act_without_a_condition(self):
        for condition in ("file", "old", "marked"):
            self.assert_all_wrong([Under("store", 0, condition), Under("sweep", 0, condition),
                                   Under("eye", 1, condition)])
        book = Book(Hand("h", "put if old"))
        self.assert_all_wrong([Under("h", 0, "file"), Under("h", 0, "old")], book)

    def test_no_condition_of_the_act(self):
        for condition in any_values() + ["", "rows", "mine", "marked", "old ", " old", "file if old", "Old", Old()]:
            self.assert_all_wrong([Under("store", 1, condition), Under("sweep", 1, condition)])
        self.assert_all_wrong([Under("store", 2, "old"), Under("store", 2, "rows"), Under("lone", 0, "file")])
        self.assert_cared([Under("lone", 0, "rows")], with_statements("lone", "mark if rows"))

    def test_no_sweep_that_is_not_called_alone(self):
        self.assert_all_wrong([Alone("store"), Alone("eye"), Alone("lone")])

    def test_no_age_and_no_names(self):
        for thing in any_values():
            if thing not in (0, 1, 2) or isinstance(thing, bool):
                self.assert_wrong([Waiting(thing)], 0)
            self.assert_wrong([Naming(thing)], 0)
        for care in (Waiting(7), Waiting(-1), Waiting("3"), Waiting(True), Naming("Own"), Naming("age"),
                     Naming(("own",))):
            self.assert_wrong([care], 0)

    def test_cares_that_collide(self):
        pairs = [(Under("sweep", 1, "old"), Without("sweep", 1)),
                 (Under("sweep", 1, "old"), Under("sweep", 1, "file")),
                 (Without("store", 0), Without("store", 0)), (Alone("sweep"), Alone("sweep")),
                 (Waiting(1), Waiting(2)),
                 (Waiting(1), Waiting(1)), (Naming("own"), Naming("shared")), (Naming("own"), Naming("own"))]
        for one, other in pairs:
            for first, second in ((one, other), (other, one)):
                self.assert_wrong([first, second], 1)
                self.assert_wrong([Insert("eye", 0, "touch"), first, Without("eye", 0), second, None], 3)

    def test_cares_that_do_not_collide(self):
        book = Book(Sweep("a", "mark", "mark"), Sweep("b", "mark", "mark"))
        cares = [Without("a", 0), Under("a", 1, "rows"), Without("b", 0), Under("b", 1, "rows"), Alone("a"),
                 Alone("b"),
                 Waiting(1), Naming("own"), Insert("a", 0, "clear"), Insert("a", 0, "clear"), Insert("b", 1, "clear")]
        self.assert_cared(cares, ["book own age 1", "sweep a alone", "clear", "clear", "mark if rows",
                                  "sweep b alone", "clear", "mark if rows"], book)

    def test_none_left_and_too_many(self):
        self.assert_wrong([Without("lone", 0)], -1)
        self.assert_cared([Without("lone", 0), Insert("lone", 0, "clear")], with_statements("lone", "clear"))
        self.assert_wrong([Without("store", 2), Without("store", 1), Without("store", 0)], -1)
        more = [Insert("store", 1, "row")] * 3
        self.assert_cared(more, with_statements("store", "skip if file", "row", "row", "row", "put", "done"))
        self.assert_wrong(more + [Insert("store", 1, "row")], -1)
        self.assert_cared(more + [Insert("store", 1, "row"), Without("store", 1)],
                          with_statements("store", "skip if file", "row", "row", "row", "row", "done"))
        many = more + [Insert("sweep", 0, "clear")] * 4 + [Insert("eye", 0, "touch")]
        self.assertEqual(sum(len(one) for one in cared(BOOK, many)), 16)
        self.assert_wrong(many + [Insert("eye", 0, "touch")], -1)
        self.assertEqual(sum(len(one) for one in cared(BOOK, many + [Insert("eye", 0, "touch"), Without("eye", 0)])),
                         16)

    def test_a_care_that_cannot_be_made_comes_first(self):
        self.assert_wrong([Without("lone", 0), None], 1)
        self.assert_wrong([Without("lone", 0), Without("lone", 0)], 1)
        self.assert_wrong([None, Without("lone", 0)], 0)


def subsets(many):
    return sorted(one for size in range(many + 1) for one in itertools.combinations(range(many), size))


class ChoiceTestCase(unittest.TestCase):
    def assert_chosen(self, book, offered, **given):
        """The choice is what judging each set says."""
        asks = given.get("asks", ("lost", "blind", "stray"))
        most = given.get("most", 100)
        choice = least_cares(book, offered, **given)
        self.assertIsInstance(choice, Choice)
        enough, weavings = [], {}
        for one in subsets(len(offered)):
            mended = cared(book, [offered[at] for at in one])
            plain = [ask for ask in asks if ask != "endless"]
            verdict = judge(mended, asks=plain, most=most) if plain else True
            if not verdict:
                weavings[one] = verdict.weaving
                self.assertTrue(is_certificate(mended, ("broken", choice.weavings[one]), asks=plain))
            elif "endless" in asks and longest(mended, most=most).ticks is None:
                weavings[one] = longest(mended, most=most).certificate
                self.assertTrue(is_life(mended, choice.weavings[one]))
            else:
                enough.append(one)
        least = [one for one in enough if not any(set(other) < set(one) for other in enough)]
        self.assertEqual(choice.enough, tuple(enough))
        self.assertEqual(choice.least, tuple(least))
        self.assertEqual(choice.weavings, weavings)
        self.assertEqual(list(choice.weavings), list(weavings))
        self.assertEqual((list(choice), len(choice), bool(choice)), (least, len(least), bool(least)))
        return choice


class TestLeastCares(ChoiceTestCase):
    BROKEN = Book(Hand("store", "put", "done", span=1), Sweep("sweep", "strike"))

    def test_no_cares(self):
        choice = self.assert_chosen(self.BROKEN, [])
        self.assertEqual((choice.least, choice.enough, list(choice.weavings)), ((), (), [()]))
        self.assertIs(bool(choice), False)
        kept = Book(Hand("h", "row"))
        choice = self.assert_chosen(kept, ())
        self.assertEqual((choice.least, choice.enough, choice.weavings, len(choice)), (((),), ((),), {}, 1))
        self.assertIs(bool(choice), True)

    def test_three_that_are_needed_together(self):
        book = Book(Hand("store", "put", "done", span=1), Sweep("sweep", "strike", span=0))
        offered = [Waiting(2), Insert("sweep", 0, "stop if named"), Alone("sweep"), Under("sweep", 0, "old")]
        choice = self.assert_chosen(book, offered, most=400)
        self.assertEqual(choice.least, ((0, 1, 3),))
        self.assertEqual(choice.enough, ((0, 1, 2, 3), (0, 1, 3)))

    def test_several_least_sets(self):
        book = Book(Hand("h", "done", "put"))
        offered = [Without("h", 0), Insert("h", 0, "stop if nofile"), Insert("h", 2, "done")]
        choice = self.assert_chosen(book, offered, asks=["lost"])
        self.assertEqual(choice.least, ((0,), (1,)))
        # Another care can be worse.
        self.assertNotIn((0, 2), choice.weavings)
        worse = self.assert_chosen(book, [Without("h", 0), Insert("h", 0, "done")], asks=["lost"])
        self.assertEqual((worse.enough, worse.least), (((0,),), ((0,),)))

    def test_four(self):
        for seed in range(12):
            book = likely_book(seed)
            hand = book.handlers[0]
            offered = [Insert(hand.name, 0, "stop if file"), Without(hand.name, len(hand) - 1), Waiting(seed % 3),
                       Insert(hand.name, len(hand), "put")]
            for asks in (("lost", "stray"), ("barred",), ("endless",), ("stray", "endless", "lost")):
                try:
                    self.assert_chosen(book, offered[:3 + seed % 2], asks=asks, most=100)
                except (TooMany, BadCare):
                    pass

    def test_endless(self):
        book = Book(Hand("h", "put", "done"), Sweep("a", "stop if named", "strike"), age=1)
        offered = [Under("a", 1, "old"), Insert("h", 0, "stop if file")]
        choice = self.assert_chosen(book, offered, asks=["endless"])
        self.assertEqual(choice.enough, ((), (1,)))
        self.assertEqual(choice.weavings[0,][0], "endless")
        both = self.assert_chosen(book, offered, asks=("lost", "endless"))
        # The weaving of another fault, where there is one, comes before the certificate of the life.
        self.assertTrue(all(isinstance(found[0], tuple) for found in both.weavings.values()))
        mixed = self.assert_chosen(Book(Hand("h", "put")), [Without("h", 0), Insert("h", 0, "touch")][1:] +
                                   [Insert("h", 1, "done")], asks=("endless", "lost"))
        self.assertEqual({found[0] for found in mixed.weavings.values()}, {"endless"})

    def test_endless_comes_after_the_other_faults(self):
        """It is looked for only where there is none of the others, so too many states do not matter then."""
        book = Book(Hand("h", "done", "put", "touch"), Sweep("a", "mark", "unmark"), age=3)
        many = len(reached(book, most=1000))
        self.assertGreater(many, 20)
        choice = least_cares(book, [], asks=("lost", "endless"), most=10)
        self.assertEqual(choice.weavings, {(): (("free", "h", 0),)})
        for asks in (("endless",), ("torn", "endless")):
            with self.assertRaises(TooMany):
                least_cares(book, [], asks=asks, most=10)

    def test_weavings_are_new_each_time(self):
        choice = least_cares(self.BROKEN, [Waiting(2)])
        self.assertIsNot(choice.weavings, choice.weavings)
        choice.weavings.clear()
        self.assertEqual(list(choice.weavings), [(), (0,)])
        self.assertIsInstance(inspect.getattr_static(Choice, "weavings"), property)
        self.assertTrue({"least", "enough"} <= set(vars(choice)))
        for method in ("__iter__", "__bool__", "__len__"):
            self.assertIn(method, vars(Choice))

    def test_arguments_are_not_changed(self):
        offered = [Waiting(2), Alone("sweep")]
        choice = least_cares(book=self.BROKEN, offered=offered)
        self.assertEqual(offered, [Waiting(2), Alone("sweep")])
        offered.clear()
        self.assertEqual(len(choice.weavings) + len(choice.enough), 4)


class TestErrorsOfLeastCares(unittest.TestCase):
    BOOK = Book(Hand("h", "put", "done", span=1), Sweep("a", "strike", "mark"), age=1)

    def assert_raises(self, error, field, value, offered, **given):
        for kind in (list, tuple):
            with self.assertRaises(error) as caught:
                least_cares(self.BOOK, kind(offered), **given)
            self.assertEqual(getattr(caught.exception, field), value)

    def test_asks(self):
        wrong = [asks for asks in BAD_ASKS if not (isinstance(asks, tuple) and "endless" in asks)] + any_values()
        for asks in wrong + [("endless", "endless"), ["lost", "endless", "lost"], "endless", ("Endless",)]:
            for offered in ([], [None], [Waiting(1)] * 5):
                with self.assertRaises(BadAsks) as caught:
                    least_cares(self.BOOK, offered, asks=asks)
                self.assertIs(caught.exception.asks, asks)

    def test_too_many_cares(self):
        four = [Insert("h", 0, "put")] * 4
        self.assertEqual(len(least_cares(self.BOOK, four, asks=("barred",), most=400).enough), 16)
        self.assert_raises(TooMany, "what", "cares", four + [Waiting(0)])
        self.assert_raises(TooMany, "what", "cares", [None] * 5)
        self.assert_raises(TooMany, "what", "cares", [Without("a", 0)] * 300)

    def test_wrong_cares(self):
        for thing in any_values() + [Care(), Waiting(9), Alone("h"), Without("h", 2)]:
            self.assert_raises(BadCare, "at", 0, [thing])
            self.assert_raises(BadCare, "at", 2, [Waiting(2), Alone("a"), thing, None])
        self.assert_raises(BadCare, "at", 1, [Waiting(2), Waiting(2)])
        self.assert_raises(BadCare, "at", 3, [Without("h", 0), Without("h", 1), Alone("a"), Alone("a")])

    def test_some_set_leaves_none_or_too_many(self):
        """All of them together may be right, and a part of them not."""
        self.assert_raises(BadCare, "at", -1, [Without("h", 0), Without("h", 1)])
        self.assert_raises(BadCare, "at", -1, [Without("h", 0), Without("h", 1), Insert("h", 0, "put")])
        six = Book(Hand("h", *["put"] * 6))
        with self.assertRaises(BadCare) as caught:
            least_cares(six, [Without("h", 0), Insert("h", 0, "put")])
        self.assertEqual(caught.exception.at, -1)
        self.assertEqual(cared(six, [Without("h", 0), Insert("h", 0, "put")]), six)

    def test_too_many_states(self):
        self.assert_raises(TooMany, "what", "states", [], asks=("barred",), most=3)
        self.assert_raises(TooMany, "what", "states", [], asks=("endless",), most=3)
        # One of the sets is enough for it.
        kept = Book(Hand("h", "row", begins="done"), Sweep("a", "mark"))
        self.assertTrue(least_cares(kept, [], asks=("lost",), most=2))
        with self.assertRaises(TooMany):
            least_cares(kept, [Waiting(3)], asks=("lost",), most=2)
        # The wrong cares come first.
        self.assert_raises(BadCare, "at", -1, [Without("h", 0), Without("h", 1)], asks=("barred",), most=1)
        self.assert_raises(BadCare, "at", 0, [None], asks=("barred",), most=1)

    def test_defaults(self):
        for call in (least_cares, ages, least_age):
            parameters = inspect.signature(call).parameters
            for name, default in (("asks", ("lost", "blind", "stray")), ("most", 100)):
                self.assertEqual(parameters[name].default, default)
                self.assertEqual(parameters[name].kind, inspect.Parameter.KEYWORD_ONLY)
            self.assertEqual(call.__module__, module.__name__)


class TestAges(unittest.TestCase):
    # The sweep must wait until each hand that found a file has its row.
    BOOK = Book(Hand("store", "put", "done", span=1), Sweep("sweep", "stop if named", "strike if old", span=0), age=6)

    def test_up_to_the_first_that_is_kept(self):
        found = ages(self.BOOK, asks=("lost",), most=400)
        self.assertIsInstance(found, list)
        self.assertTrue(all(isinstance(one, Verdict) for one in found))
        self.assertEqual([bool(one) for one in found], [False] * (len(found) - 1) + [True])
        self.assertEqual(least_age(self.BOOK, asks=("lost",), most=400), 2)
        self.assertEqual(len(found), 3)
        for age, one in enumerate(found):
            self.assertEqual(one.certificate, judge(self.BOOK.with_age(age), asks=("lost",), most=400).certificate)

    def test_at_once(self):
        book = Book(Hand("h", "row"), age=4)
        self.assertEqual([bool(one) for one in ages(book)], [True])
        self.assertEqual(least_age(book), 0)

    def test_never(self):
        book = Book(Hand("h", "done"), age=2)
        self.assertEqual([bool(one) for one in ages(book)], [False] * 7)
        self.assertIsNone(least_age(book))

    def test_likely_books(self):
        for off in (0, 1, 2):
            for seed in range(25):
                book = likely_book(seed)
                book = Book(*book.handlers, names=book.names, age=1, off=off)
                for asks in (("lost",), ("stray",)):
                    try:
                        expected = [bool(judge(book.with_age(age), asks=asks, most=60)) for age in range(7)]
                    except TooMany:
                        continue
                    first = expected.index(True) if True in expected else 6
                    self.assertEqual([bool(one) for one in ages(book, asks=asks, most=60)], expected[:first + 1])
                    self.assertEqual(least_age(book, asks=asks, most=60), first if True in expected else None)

    def test_the_age_of_the_book_means_nothing(self):
        for age in range(7):
            self.assertEqual(least_age(self.BOOK.with_age(age), asks=["lost"], most=400),
                             least_age(self.BOOK, asks=["lost"], most=400))

    def test_wrong_asks(self):
        for asks in BAD_ASKS + any_values() + [("endless",), ["endless", "lost"]]:
            for call in (ages, least_age):
                with self.assertRaises(BadAsks) as caught:
                    call(self.BOOK, asks=asks, most=1)
                self.assertIs(caught.exception.asks, asks)

    def test_too_many_states(self):
        for call in (ages, least_age):
            for book, most in ((self.BOOK, 1), (Book.read(OWN), 100), (Book.read(STORE), 30)):
                with self.assertRaises(TooMany) as caught:
                    call(book=book, asks=("barred",), most=most)
                self.assertEqual(caught.exception.what, "states")


if __name__ == "__main__":
    unittest.main()
