"""Points 15 to 18 and 23: states, settled crowds, and which state covers another one."""

import inspect
import random
import unittest

from strayfiles import states as module
from strayfiles.books import Book
from strayfiles.errors import TooMany
from strayfiles.handlers import Hand, Reader, Sweep
from strayfiles.moves import reached
from strayfiles.stages import Stages
from strayfiles.states import covers, first_state, is_state, settled
from tests import reference
from tests.samples import OWN, STORE, any_values, random_book

# All kinds of handlers, with spans and without.
WIDE = Book(Hand("store", "row", "put", "done", span=2), Hand("late", "put if old", "drop", begins="open"),
            Sweep("broom", "strike if old", "clear", alone=True, span=1),
            Sweep("mop", "mark", "unmark if ripe", span=3), Reader("eye", "touch", "read", span=0),
            Hand("wipe", "drop", "strike", begins="done", span=0),
            age=2, off=1, keep=2)
OPEN, DONE = ("open", "", 0, 0), ("done", "", 0, 0)


def random_stage(chance, book, names):
    handler = book[chance.choice(names)]
    return handler.name, chance.randrange(len(handler)), chance.randint(0, handler.span or 0)


def random_posts(chance, book):
    """Posts of any book, ascending."""
    hands = [one.name for one in book if one.kind == "hand"]
    posts = set()
    for _ in range(chance.randint(0, 1 if book.names == "own" else 3)):
        standing = chance.choice(["open", "done"] + ["none"] * (book.names == "own"))
        if standing != "none" and chance.random() < 0.5:
            posts.add((standing, "", 0, 0))
        else:
            posts.add((standing,) + random_stage(chance, book, hands))
    return tuple(sorted(posts))


def random_state(seed, book):
    """A state of the book whose crowd is any list or tuple of stages, perhaps not settled."""
    chance = random.Random(seed)
    lone = [one.name for one in book if one.kind == "sweep" and one.alone]
    free = reference.crowd_kinds(book)
    crowd = [random_stage(chance, book, free) for _ in range(chance.choice([0, 1, 2, 3, 8]) if free else 0)]
    alone = random_stage(chance, book, lone) if lone and chance.random() < 0.5 else ()
    age, mark = [chance.randint(-1, book.age + book.off) for _ in range(2)]
    copy = chance.randint(-1, -1 if book.keep is None else book.keep)
    return age, mark, copy, alone, chance.choice([list, tuple])(crowd), random_posts(chance, book)


class TestFirstState(unittest.TestCase):
    def test_by_hand(self):
        self.assertEqual(first_state(Book.read(STORE)), (-1, -1, -1, (), (("store", 0, 0), ("store", 1, 0)), ()))
        self.assertEqual(first_state(book=Book.read(OWN)), (-1, -1, -1, (), (("mop", 0, 0),), ()))
        self.assertEqual(first_state(WIDE), (-1, -1, -1, (), (("mop", 0, 0), ("store", 0, 0)), ()))

    def test_no_crowd(self):
        for book in (Book(Hand("a", "put"), names="own"), Book(Reader("a", "read")),
                     Book(Sweep("a", "clear", alone=True)),
                     Book(Hand("a", "touch", begins="open"), Hand("b", "touch", begins="done"))):
            self.assertEqual(first_state(book), (-1, -1, -1, (), (), ()))

    def test_random_books(self):
        for seed in range(200):
            book = random_book(seed)
            self.assertEqual(first_state(book), reference.first(book))


class TestSettled(unittest.TestCase):
    def crowd(self, book, *, age=-1, mark=-1, crowd=(), rows=()):
        """The settled crowd, without the elapsed ticks, which are 0 all through."""
        state = settled(book, (age, mark, -1, (), crowd, rows))
        self.assertEqual((state[:4], state[5]), ((age, mark, -1, ()), rows))
        self.assertTrue(all(stage[2] == 0 for stage in state[4]))
        return [stage[:2] for stage in state[4]]

    def test_who_begins(self):
        handlers = [Hand("hand", "put"), Hand("late", "put", begins="open"), Hand("wipe", "drop", begins="done"),
                    Sweep("broom", "strike"), Sweep("lone", "strike", alone=True), Reader("eye", "read")]
        shared, own = Book(*handlers), Book(*handlers, names="own")
        for rows, readers in (((), []), ((OPEN,), []), ((DONE,), [("eye", 0)]),
                              ((("done", "hand", 0, 0),), [("eye", 0)]), ((("open", "late", 0, 0),), [])):
            self.assertEqual(self.crowd(shared, rows=rows, age=0), [("broom", 0)] + readers + [("hand", 0)])
            self.assertEqual(self.crowd(own, rows=rows, age=0), [("broom", 0)] + readers)
        self.assertEqual(self.crowd(own, rows=(("none", "hand", 0, 0),)), [("broom", 0)])

    def test_who_begins_stays_although_it_goes_on(self):
        book = Book(Sweep("a", "strike", "strike", "mark"))
        self.assertEqual(self.crowd(book), [("a", 0), ("a", 1), ("a", 2)])
        self.assertEqual(self.crowd(book, age=0, mark=0), [("a", 0)])
        self.assertEqual(self.crowd(book, age=0, mark=0, crowd=(("a", 1, 0),)), [("a", 0), ("a", 1)])

    def test_looks(self):
        idle = Book(Hand("x", "put", "skip if norows", "mark", "mark", "mark", begins="open"))
        self.assertEqual(self.crowd(idle, crowd=[("x", 1, 0)]), [("x", 1), ("x", 3)])
        self.assertEqual(self.crowd(idle, crowd=[("x", 1, 0)], rows=(OPEN,)), [("x", 1), ("x", 2)])
        back = Book(Hand("x", "put", "again if norows", "mark", begins="open"))
        self.assertEqual(self.crowd(back, crowd=[("x", 1, 0)]), [("x", 0), ("x", 1)])
        self.assertEqual(self.crowd(back, crowd=[("x", 1, 0)], rows=(DONE,)), [("x", 1), ("x", 2)])
        ends = Book(Hand("x", "put", "stop if norows", "mark", begins="open"))
        self.assertEqual(self.crowd(ends, crowd=[("x", 1, 0)]), [("x", 1)])
        self.assertEqual(self.crowd(ends, crowd=[("x", 1, 0)], rows=(OPEN,)), [("x", 1), ("x", 2)])
        last = Book(Hand("x", "put", "skip if norows", begins="open"))
        for rows in ((), (OPEN,)):
            self.assertEqual(self.crowd(last, crowd=[("x", 1, 0)], rows=rows), [("x", 1)])

    def test_each_act(self):
        # For each act: situations in which it does nothing, and those in which it does something.
        nothing, file, young, mark, done = {}, dict(age=1), dict(age=0), dict(mark=1), dict(rows=(DONE,))
        idle = dict(rows=(OPEN,))
        busy = dict(rows=(("open", "y", 0, 0),))
        for kind, text, idles, deeds in (
                (Hand, "put", [young, dict(age=0, mark=1)], [nothing, file, done]),
                (Hand, "touch", [nothing, young, done], [file]),
                (Sweep, "strike", [nothing, mark], [young, file]),
                (Hand, "row", [], [nothing, file, idle, done]),
                (Hand, "done", [], [nothing, file, idle, done]),
                (Hand, "drop", [nothing, file, idle, done], []),
                (Sweep, "mark", [mark, dict(mark=0)], [nothing, file]),
                (Sweep, "unmark", [nothing, file], [mark, dict(mark=0)]),
                (Sweep, "clear", [nothing, file, done, busy], [idle, dict(rows=(DONE, OPEN))]),
                (Reader, "read", [nothing, file, done], []),
                (Reader, "touch", [nothing, young], [file]),
                (Sweep, "strike if old", [nothing], [file]),
                (Hand, "done if unmarked", [mark], [nothing]),
                (Hand, "row if ripe", [nothing], [mark])):
            first, last = ("row", "row") if kind is Hand else ("again if nofile", "again if nofile")
            book = Book(kind("x", first, text, last), Hand("y", "put", begins="open"), age=1)
            for situation in idles + deeds:
                crowd = self.crowd(book, crowd=[("x", 1, 0)], **situation)
                self.assertEqual(("x", 2) in crowd, situation in idles, (text, situation))

    def test_all_readings_that_may_be_made(self):
        look = Hand("x", "row", "skip if old", "row", "row")
        for age, expected in ((0, [2]), (1, [2, 3]), (2, [2, 3]), (3, [3])):
            crowd = self.crowd(Book(look, age=2, off=1), age=age, crowd=[("x", 1, 0)])
            self.assertEqual(crowd, [("x", 0), ("x", 1)] + [("x", at) for at in expected])
        # The put does nothing at age 0, too, and where the age may be read as old.
        act = Hand("x", "put if young", "row")
        for off, ages in ((0, (0, 2)), (1, (0, 1, 2, 3)), (2, (0, 1, 2, 3, 4))):
            for age in range(2 + off + 1):
                crowd = self.crowd(Book(act, age=2, off=off), age=age)
                self.assertEqual(crowd, [("x", 0), ("x", 1)] if age in ages else [("x", 0)])

    def test_elapsed_goes_along(self):
        book = Book(Hand("x", "touch", "touch", "row", "touch", begins="open", span=3),
                    Sweep("s", "strike", "mark", span=2))
        state = (-1, -1, -1, (), [("x", 1, 2), ("x", 0, 3), ("s", 1, 1)], ())
        self.assertEqual(settled(book, state)[4], (("s", 0, 0), ("s", 1, 0), ("x", 0, 3), ("x", 1, 2), ("x", 2, 2)))
        state = (-1, -1, -1, (), [("x", 1, 2), ("x", 0, 1), ("x", 2, 0), ("x", 3, 1), ("x", 3, 2)], ())
        self.assertEqual(settled(book, state)[4], (("s", 0, 0), ("s", 1, 0), ("x", 0, 1), ("x", 1, 1), ("x", 2, 0),
                                                   ("x", 3, 1)))

    def test_lists_and_tuples(self):
        for seed in range(100):
            book = random_book(seed)
            age, mark, copy, alone, crowd, rows = random_state(seed, book)
            doubled = list(crowd) + list(crowd)[::-1]
            results = [settled(book, (age, mark, copy, alone, one, rows))
                       for one in (list(crowd), tuple(crowd), doubled)]
            self.assertEqual(results[0], results[1])
            self.assertEqual(results[0], results[2])
            self.assertEqual([type(part) for part in results[0]], [int, int, int, tuple, tuple, tuple])

    def test_arguments_are_left_as_they_are(self):
        crowd = [("store", 2, 1), ("store", 0, 1)]
        settled(WIDE, (-1, -1, -1, (), crowd, ()))
        self.assertEqual(crowd, [("store", 2, 1), ("store", 0, 1)])

    def test_random_states(self):
        for seed in range(1500):
            book = random_book(seed % 150)
            state = random_state(seed, book)
            result = settled(book=book, state=state)
            self.assertEqual(result, reference.settle(book, state))
            self.assertEqual(settled(book, result), result)


class TestIsState(unittest.TestCase):
    def setUp(self):
        self.state = settled(WIDE, (1, 0, 2, ("broom", 1, 1), [("store", 0, 0)], (DONE, ("done", "wipe", 1, 0), OPEN,
                                                                                  ("open", "store", 2, 2))))

    def with_part(self, at, part):
        return self.state[:at] + (part,) + self.state[at + 1:]

    def assert_no_states(self, things, book=WIDE):
        for thing in things:
            self.assertIs(is_state(book, thing), False, thing)

    def test_states(self):
        self.assertIs(is_state(WIDE, self.state), True)
        self.assertIs(is_state(book=WIDE, thing=first_state(WIDE)), True)
        for seed in range(300):
            book = random_book(seed)
            self.assertIs(is_state(book, reference.settle(book, random_state(seed, book))), True)

    def test_any_values(self):
        self.assert_no_states(any_values() + [self.state[:5], self.state + ((),), list(self.state), (self.state,)])
        for at in range(6):
            for value in any_values():
                # Some of them may stand there.
                if (at < 3 and type(value) is int and -1 <= value <= 2) or (at in (3, 5) and value == ()):
                    continue
                self.assert_no_states([self.with_part(at, value)])
        self.assert_no_states([self.with_part(at, []) for at in (3, 4, 5)] + [self.with_part(4, ())])

    def test_ages(self):
        for at in (0, 1):
            for age in range(-3, 6):
                state = settled(WIDE, self.with_part(at, age))
                self.assertIs(is_state(WIDE, state), -1 <= age <= 3, (at, age))
            self.assert_no_states([self.with_part(at, True), self.with_part(at, False), self.with_part(at, None),
                                   self.with_part(at, "1"), self.with_part(at, 10 ** 29), self.with_part(at, (1,))])

    def test_copies(self):
        for keep in (None, 0, 1, 2, 3):
            book = Book(Hand("a", "done"), keep=keep)
            for copy in range(-2, 5):
                state = settled(book, (-1, -1, copy, (), (), ()))
                self.assertIs(is_state(book, state), -1 <= copy <= (-1 if keep is None else keep), (keep, copy))
            self.assert_no_states([(-1, -1, value, (), state[4], ()) for value in (True, False, None, "0")], book)

    def test_alone(self):
        for alone in ((), ("broom", 0, 0), ("broom", 0, 1), ("broom", 1, 0)):
            self.assertIs(is_state(WIDE, self.with_part(3, alone)), True)
        self.assert_no_states([self.with_part(3, alone) for alone in (
            ("mop", 0, 0), ("store", 0, 0), ("eye", 0, 0), ("brooms", 0, 0), ("", 0, 0), ("broom", 2, 0),
            ("broom", -1, 0), ("broom", 0, 2), ("broom", 0, -1), ["broom", 0, 0], ("broom", 0), ("broom", 0, 0, 0),
            ("broom", True, 0), ("broom", 0, False), ("broom", 0, True), ("broom", "0", 0), (("broom", 0, 0),),
            (["broom"], 0, 0), (None, 0, 0), (0, 0, 0), [], None, "")])

    def test_elapsed_without_a_span_is_0(self):
        book = Book(Sweep("lone", "mark", alone=True), Hand("late", "put", begins="open"), Sweep("mop", "mark"))
        for elapsed in (0, 1, 2):
            right = elapsed == 0
            self.assertIs(is_state(book, (-1, -1, -1, ("lone", 0, elapsed), (("mop", 0, 0),), ())), right)
            self.assertIs(is_state(book, (-1, -1, -1, (), (("mop", 0, 0),), (("open", "late", 0, elapsed),))), right)
            self.assertIs(is_state(book, (-1, -1, -1, (), (("late", 0, elapsed), ("mop", 0, 0)), ())), right)

    def test_crowds(self):
        crowd = self.state[4]
        self.assertEqual(crowd, (("eye", 0, 0), ("mop", 0, 0), ("mop", 1, 0), ("store", 0, 0)))
        more = (("eye", 0, 0), ("eye", 1, 0), ("late", 1, 0), ("mop", 0, 0), ("mop", 1, 0), ("store", 0, 0),
                ("store", 1, 2), ("store", 2, 1), ("wipe", 1, 0))
        self.assertIs(is_state(WIDE, self.with_part(4, more)), True)
        for wrong in (list(crowd), crowd[::-1], crowd + crowd[-1:], crowd[:1] + crowd, crowd[1:], crowd[:-1], (),
                      crowd[:2] + crowd[3:], crowd + (("store", 1, 3),), crowd + (("store", 0, 1),),
                      crowd + (("store", 3, 0),), crowd + (("store", -1, 0),), crowd + (("store", 1, -1),),
                      crowd + (("x", 0, 0),), crowd + (("store", 1),), crowd + (("store", 1, 0, 0),), crowd + ((),),
                      crowd + (["store", 1, 0],), crowd + (("store", True, 0),), crowd + (("store", 1, True),),
                      crowd + (("store", 1, False),), crowd + ("store",), crowd + (None,),
                      (("broom", 0, 0),) + crowd, (("broom", 1, 0),) + crowd, crowd[:1] + (("mop", 0, 1),) + crowd[2:],
                      (("eye", 0, False),) + crowd[1:], (("eye", 0, 1),) + crowd[1:], (("eye", False, 0),) + crowd[1:]):
            self.assert_no_states([self.with_part(4, wrong)])

    def test_crowds_that_settling_changes(self):
        book = Book(Hand("x", "touch", "touch", "row", begins="open", span=3))
        for crowd, right in (((), True), ((("x", 2, 1),), True), ((("x", 1, 1),), False),
                             ((("x", 1, 1), ("x", 2, 1)), True), ((("x", 1, 1), ("x", 2, 0)), True),
                             ((("x", 1, 1), ("x", 2, 2)), False), ((("x", 1, 0), ("x", 1, 1), ("x", 2, 0)), False)):
            self.assertIs(is_state(book, (-1, -1, -1, (), crowd, ())), right, crowd)

    def test_no_hands_in_the_crowd_with_own_names(self):
        book = Book.read(OWN)
        state = first_state(book)
        self.assertIs(is_state(book, state), True)
        for stage in (("make", 0, 0), ("make", 1, 1), ("wipe", 0, 0)):
            self.assert_no_states([state[:4] + (tuple(sorted(state[4] + (stage,))), ())], book)

    def test_rows(self):
        for rows in ((), (OPEN,), (DONE, OPEN),
                     (("done", "late", 1, 0), ("done", "store", 0, 1), ("done", "store", 0, 2)),
                     (OPEN, ("open", "store", 0, 0), ("open", "wipe", 1, 0))):
            self.assertIs(is_state(WIDE, settled(WIDE, self.with_part(5, rows))), True, rows)
        good = ("open", "store", 2, 2)
        for wrong in ([good], (good, good), (OPEN, DONE), (good, OPEN), (list(good),), (good[:3],), (good + (0,),),
                      ((),), ("open",), (None,), good, (("open", "store", 2, 3),), (("open", "store", 2, -1),),
                      (("open", "store", 3, 0),), (("open", "store", -1, 0),), (("open", "late", 0, 1),),
                      (("open", "mop", 0, 0),), (("open", "eye", 0, 0),), (("open", "broom", 0, 0),),
                      (("open", "x", 0, 0),), (("open", "", 1, 0),), (("open", "", 0, 1),), (("open", "", 0, False),),
                      (("open", "", False, 0),), (("open", "", -1, 0),), (("open", "store", True, 0),),
                      (("open", "store", 0, True),), (("none", "", 0, 0),), (("none", "store", 0, 0),),
                      (("closed", "store", 0, 0),), (("", "store", 0, 0),), (("Open", "", 0, 0),),
                      ((None, "store", 0, 0),), ((["open"], "", 0, 0),), (("open", None, 0, 0),),
                      (("open", 0, 0, 0),), (("open", ["store"], 0, 0),), (("open", (), 0, 0),)):
            # In this crowd are all whom any rows would bring.
            crowd = settled(WIDE, self.with_part(5, (good, OPEN)))[4]
            self.assert_no_states([self.with_part(5, wrong)])
            self.assert_no_states([self.state[:4] + (crowd, wrong)])

    def test_rows_with_own_names(self):
        book = Book.read(OWN)
        state = first_state(book)
        for post in (OPEN, ("open", "make", 1, 1), ("open", "wipe", 0, 0), ("none", "make", 2, 0),
                     ("none", "wipe", 1, 0), DONE, ("done", "make", 0, 0)):
            self.assertIs(is_state(book, settled(book, state[:5] + ((post,),))), True, post)
            self.assert_no_states([settled(book, state[:5] + (tuple(sorted([post, other])),))
                                   for other in (OPEN, DONE, ("none", "make", 0, 0)) if other != post], book)
        for post in (("none", "", 0, 0), ("none", "make", 3, 0), ("none", "make", 0, 2), ("none", "wipe", 0, 1),
                     ("none", "mop", 0, 0), ("none", "eye", 0, 0), ("none", "x", 0, 0)):
            self.assert_no_states([state[:5] + ((post,),)], book)

    def test_of_the_book(self):
        other = WIDE.with_age(3)
        self.assertIs(is_state(other, settled(other, self.with_part(0, 4))), True)
        self.assertIs(is_state(WIDE, self.with_part(0, 4)), False)
        self.assert_no_states([first_state(Book.read(OWN)), first_state(Book.read(STORE))])


class TestCovers(unittest.TestCase):
    def setUp(self):
        self.state = (1, 0, 2, ("broom", 0, 1), (("eye", 0, 0), ("mop", 0, 0), ("mop", 1, 1)),
                      (("done", "", 0, 0), ("open", "store", 1, 0), ("open", "store", 1, 1)))

    def with_part(self, at, part):
        return self.state[:at] + (part,) + self.state[at + 1:]

    def test_itself(self):
        self.assertIs(covers(self.state, self.state), True)
        for book in (WIDE, Book.read(OWN)):
            self.assertIs(covers(state=first_state(book), other=first_state(book)), True)

    def test_equal_parts(self):
        for at, part in ((0, 0), (0, -1), (1, 1), (1, -1), (2, 1), (2, -1), (3, ()), (3, ("broom", 0, 0)),
                         (3, ("broom", 1, 1))):
            self.assertIs(covers(self.state, self.with_part(at, part)), False)
            self.assertIs(covers(self.with_part(at, part), self.state), False)

    def test_crowds(self):
        for crowd, covered in (((), True), ((("mop", 1, 1),), True), ((("mop", 1, 2), ("mop", 0, 3)), True),
                               ((("mop", 1, 0),), False), ((("mop", 2, 1),), False), ((("store", 0, 0),), False)):
            self.assertIs(covers(self.state, self.with_part(4, crowd)), covered, crowd)
        self.assertIs(covers(self.with_part(4, ()), self.state), False)

    def test_posts(self):
        done, fresh, stale = self.state[5]
        for rows, covered in (((done, stale), True), ((done, fresh), False), ((done,), False), ((fresh, stale), False),
                              ((done, ("open", "store", 1, 2)), True), ((done, ("open", "store", 2, 1)), False),
                              ((done, ("done", "store", 1, 1)), False), ((done, stale, OPEN), False),
                              ((done, ("open", "late", 1, 1)), False), ((), False)):
            self.assertIs(covers(self.state, self.with_part(5, rows)), covered, rows)
        self.assertIs(covers(self.with_part(5, ()), self.with_part(5, ())), True)
        self.assertIs(covers(self.with_part(5, (done,)), self.state), False)
        # Each own post needs one of the other's that is not fresher; each of the other's one that is as fresh.
        self.assertIs(covers(self.with_part(5, (done, fresh)), self.with_part(5, (done, stale))), True)
        self.assertIs(covers(self.with_part(5, (done, stale)), self.with_part(5, (done, fresh))), False)
        self.assertIs(covers(self.with_part(5, (done, fresh)), self.state), True)
        self.assertIs(covers(self.with_part(5, (done, stale)), self.state), False)

    def test_random_states(self):
        covered = 0
        for seed in range(60):
            try:
                states = reached(random_book(seed), most=60)
            except TooMany:
                continue
            for state in states:
                for other in states:
                    self.assertIs(covers(state, other), reference.covers(state, other))
                    covered += state != other and covers(state, other)
        self.assertGreater(covered, 50)

    def test_random_crowds_and_posts(self):
        found = {True: 0, False: 0}
        for seed in range(3000):
            book = random_book(seed % 50)
            state, other = [reference.settle(book, random_state(2 * seed + one, book)) for one in (0, 1)]
            other = state[:4] + other[4:]
            if seed % 2:
                other = other[:5] + (state[5],)
            result = covers(state, other)
            self.assertIs(result, reference.covers(state, other))
            self.assertLessEqual(result, Stages(other[4]).within(Stages(state[4])))
            found[result] += 1
        self.assertGreater(min(found.values()), 300)


class TestInterface(unittest.TestCase):
    def test_parameters(self):
        for name, parameters in (("first_state", "(book)"), ("settled", "(book, state)"), ("is_state", "(book, thing)"),
                                 ("covers", "(state, other)")):
            function = vars(module)[name]
            self.assertEqual((str(inspect.signature(function)), function.__module__), (parameters, "strayfiles.states"))


if __name__ == "__main__":
    unittest.main()
