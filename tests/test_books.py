"""Points 8 and 9: books, how they are written, and how they are read."""

import inspect
import unittest

from strayfiles import books
from strayfiles.books import Book
from strayfiles.errors import BadBook, BadHandler, BadLine, NoHandler
from strayfiles.handlers import Hand, Reader, Sweep
from strayfiles.times import Span
from tests.samples import OWN, STORE, any_values, random_book


def hand(name, many=1):
    return Hand(name, *["put"] * many)


class BookTestCase(unittest.TestCase):
    def assert_refused(self, error, value, make, *args, **named):
        """Refused by this very error with this only field."""
        with self.assertRaises(error) as seen:
            make(*args, **named)
        self.assertIs(type(seen.exception), error)
        self.assertEqual(list(vars(seen.exception).values()), [value])


class TestFields(BookTestCase):
    def test_what_is_left_out(self):
        book = Book(hand("a"))
        self.assertEqual((book.names, book.age, book.off, book.keep, book.top), ("shared", 0, 0, None, 0))
        self.assertEqual(book.handlers, (hand("a"),))
        self.assertEqual(str(book), "book shared age 0\nhand a from none\nput")

    def test_all_fields(self):
        book = Book(hand("b"), Sweep("a", "clear"), Reader("c", "read"), names="own", age=6, off=2, keep=3)
        self.assertEqual((book.names, book.age, book.off, book.keep, book.top), ("own", 6, 2, 3, 8))
        self.assertIsInstance(book.handlers, tuple)
        self.assertEqual([one.name for one in book.handlers], ["b", "a", "c"])
        self.assertEqual(len(book), 3)
        self.assertEqual(list(book), list(book.handlers))
        for name in ("handlers", "names", "age", "off", "keep"):
            self.assertIn(name, vars(book))

    def test_class_values(self):
        self.assertEqual((Book.MOST_HANDLERS, Book.MOST_STATEMENTS, Book.MOST_AGE), (6, 16, 6))

    def test_bounds(self):
        for names in ("shared", "own"):
            self.assertEqual(Book(hand("a"), names=names).names, names)
        for age in range(7):
            for off in range(3):
                book = Book(hand("a"), age=age, off=off)
                self.assertEqual((book.age, book.off, book.top), (age, off, age + off))
        for keep in (None, 0, 1, 2, 3):
            self.assertEqual(Book(hand("a"), keep=keep).keep, keep)
        for many in range(1, 7):
            self.assertEqual(len(Book(*[hand(name) for name in "abcdef"[:many]])), many)
        book = Book(*[hand(name, many) for name, many in zip("abcdef", (3, 3, 3, 3, 3, 1))])
        self.assertEqual(sum(len(one) for one in book), 16)
        self.assertEqual(len(Book(hand("a", 6), hand("b", 6), hand("c", 4))), 3)

    def test_a_handler_by_its_name(self):
        book = Book.read(STORE)
        self.assertEqual(book["store"], book.handlers[0])
        self.assertEqual(book["broom"].lines(), ["sweep broom alone", "stop if rows", "strike if old"])
        self.assertIs("store" in book, True)
        self.assertIs("broom" in book, True)
        for name in ("stor", "stores", "Store", "put", "a", ""):
            self.assertIs(name in book, False)
            self.assert_refused(NoHandler, name, lambda: book[name])
        for thing in any_values() + [["store"], ("store",), book["store"], book]:
            self.assertIs(thing in book, False)


class TestWrong(BookTestCase):
    def test_handlers(self):
        self.assert_refused(BadBook, "handlers", Book)
        self.assert_refused(BadBook, "handlers", Book, *[hand(name) for name in "abcdefg"])
        self.assert_refused(BadBook, "handlers", Book, hand("a"), hand("b"), hand("a", 2))
        self.assert_refused(BadBook, "handlers", Book, hand("a"), Sweep("a", "clear"))
        same = hand("a")
        self.assert_refused(BadBook, "handlers", Book, same, same)

    def test_statements(self):
        self.assert_refused(BadBook, "statements", Book, hand("a", 6), hand("b", 6), hand("c", 5))
        self.assert_refused(BadBook, "statements", Book, *[hand(name, 6) for name in "abcdef"])
        self.assert_refused(BadBook, "statements", Book, *[hand(name, 3) for name in "abcde"], hand("f", 2))

    def test_names(self):
        for names in any_values() + ["Shared", "own ", "sharedown", "o", ["own"], ("own",)]:
            self.assert_refused(BadBook, "names", Book, hand("a"), names=names)

    def test_numbers(self):
        for field, most in (("age", 6), ("off", 2), ("keep", 3)):
            for value in any_values() + [most + 1, 8, 9, -1, "1", [1], (1,)]:
                if type(value) is int and 0 <= value <= most or field == "keep" and value is None:
                    self.assertEqual(getattr(Book(hand("a"), **{field: value}), field), value)
                else:
                    self.assert_refused(BadBook, field, Book, hand("a"), **{field: value})

    def test_order_of_the_errors(self):
        wrong = {"names": 1, "age": 7, "off": 3, "keep": 4}
        self.assert_refused(BadBook, "handlers", Book, **wrong)
        self.assert_refused(BadBook, "handlers", Book, *[hand("a", 6)] * 3, **wrong)
        self.assert_refused(BadBook, "handlers", Book, *[hand(name, 6) for name in "abcdefg"], **wrong)
        many = [hand("a", 6), hand("b", 6), hand("c", 6)]
        self.assert_refused(BadBook, "statements", Book, *many, **wrong)
        for field in ("names", "age", "off", "keep"):
            self.assert_refused(BadBook, field, Book, hand("a"), **wrong)
            del wrong[field]


class TestWritten(BookTestCase):
    def test_some(self):
        for text in (STORE, OWN):
            book = Book.read(text)
            self.assertEqual(str(book), text)
            self.assertEqual(book.lines(), text.split("\n"))
        self.assertEqual(Book.read(STORE).top, 4)
        own = Book.read(OWN)
        self.assertEqual((own.names, own.age, own.off, own.keep), ("own", 1, 0, 2))
        self.assertEqual([one.kind for one in own], ["hand", "hand", "reader", "sweep"])
        self.assertEqual([one.span for one in own], [1, None, 0, None])

    def test_first_lines(self):
        for off, off_text in ((0, ""), (1, " off 1"), (2, " off 2")):
            for keep, keep_text in ((None, ""), (0, " keep 0"), (3, " keep 3")):
                for names in ("shared", "own"):
                    for age in range(7):
                        book = Book(hand("a"), names=names, age=age, off=off, keep=keep)
                        line = f"book {names} age {age}{off_text}{keep_text}"
                        self.assertEqual(book.lines(), [line, "hand a from none", "put"])
                        self.assertEqual(Book.read(str(book)), book)

    def test_head_lines(self):
        for name in ("from", "span", "alone", "book", "hand", "sweep", "reader", "none", "put", "stop", "a"):
            for span, span_text in ((None, ""), (0, " span 0"), (3, " span 3")):
                for handler, head in (
                        (Hand(name, "put", begins="none", span=span), f"hand {name} from none"),
                        (Hand(name, "put", begins="open", span=span), f"hand {name} from open"),
                        (Hand(name, "put", begins="done", span=span), f"hand {name} from done"),
                        (Sweep(name, "clear", span=span), f"sweep {name}"),
                        (Sweep(name, "clear", alone=True, span=span), f"sweep {name} alone"),
                        (Reader(name, "read", span=span), f"reader {name}")):
                    self.assertEqual(handler.head(), head + span_text)
                    book = Book.read("\n".join(["book own age 2"] + handler.lines()))
                    self.assertEqual(book.handlers, (handler,))
                    self.assertEqual((book[name].kind, book[name].span), (handler.kind, span))

    def test_random_books_are_read_as_they_are_written(self):
        for seed in range(300):
            book = random_book(seed)
            again = Book.read(str(book))
            self.assertEqual(again, book)
            self.assertEqual(again.lines(), book.lines())
            self.assertEqual((again.names, again.age, again.off, again.keep),
                             (book.names, book.age, book.off, book.keep))

    def test_the_largest_book(self):
        text = "book own age 6 off 2 keep 3"
        for name, many in zip("abcdef", (3, 3, 3, 3, 3, 1)):
            text += f"\nhand {name} from none span 3" + "\nput" * many
        self.assertEqual(str(Book.read(text)), text)


# Each wrong text beside the index of the line that is wrong.
HEAD = "book shared age 3"
STOP = HEAD + "\nhand a from none\nput"


def wrong_first_lines():
    lines = ["", " ", "book", "books shared age 3", "Book shared age 3", "book shared", "book shared age",
             "book age 3", "book both age 3", "book shared own age 3", "book shared age 7", "book shared age 8",
             "book shared age 10", "book shared age 03", "book shared age -1", "book shared age +1",
             "book shared age x", "book shared age \u0663", "book shared age 3 ", " book shared age 3",
             "book  shared age 3", "book shared  age 3", "book shared age  3", "book shared\tage 3",
             "book shared age 3 off 0", "book shared age 3 off 3", "book shared age 3 off", "book shared age 3 off 01",
             "book shared age 3 off x", "book shared age 3 off 1 off 1", "book shared age 3 keep 4",
             "book shared age 3 keep", "book shared age 3 keep None", "book shared age 3 keep 1 off 1",
             "book shared age 3 keep 1 keep 1", "book shared age 3 off 0 keep 1", "book shared age 3 off 1 keep 9",
             "book shared off 1", "book shared off 1 age 3", "book shared keep 1", "book shared age 3 span 1",
             "book shared age 3 off 1  keep 1", "book shared age 3\r", "hand a from none", "put", "book self age 3"]
    return [line + rest for line in lines for rest in ("", "\nhand a from none\nput")]


def wrong_lines():
    """Lines that are wrong both behind a statement and behind the first line."""
    return ["", " ", "hand", "hand b", "hand b from", "hand b none", "hand b from idle", "hand b from none span",
            "hand b from none span 4", "hand b from none span -1", "hand b from none span 01",
            "hand b from none span None", "hand b from none span 1 span 1", "hand b span 1 from none",
            "hand b from none ", " hand b from none", "hand  b from none", "hand b from  none",
            "hand b from none  span 1", "hand B from none", "hand abcdefghi from none", "hand self from none",
            "hand age from none", "hand off from none", "hand  from none", "hand b from none alone",
            "hand b alone", "Hand b from none", "hands b from none", "sweep", "sweep b from none", "sweep b Alone",
            "sweep b alone alone", "sweep b span 1 alone", "sweep b alone span 4", "sweep b alone ", "sweep self",
            "sweep b span", "sweep b 1", "reader", "reader b alone", "reader b from none", "reader b span 4",
            "reader b span", "reader off", "reader b\r", "book shared age 3", "stop", "stop if", "put if", "put put",
            "puts", "none", "b", "if file", "put if  file", "put ", " put", "put\t"]


class TestRead(BookTestCase):
    def assert_wrong(self, text, at):
        with self.subTest(text=repr(text)[:90]):
            self.assert_refused(BadLine, at, Book.read, text)

    def test_no_string(self):
        for thing in any_values() + [STORE.encode(), STORE.split("\n"), (STORE,), Book.read(STORE)]:
            if not isinstance(thing, str):
                self.assert_wrong(thing, -1)

    def test_the_first_line(self):
        for text in wrong_first_lines():
            self.assert_wrong(text, 0)
        for thing in any_values():
            if isinstance(thing, str):
                self.assert_wrong(thing, 0)

    def test_lines_in_place_of_a_handler(self):
        for line in wrong_lines() + ["put", "read", "stop if file"]:
            self.assert_wrong(f"{HEAD}\n{line}", 1)
            self.assert_wrong(f"{HEAD}\n{line}\nput", 1)

    def test_lines_behind_a_statement(self):
        for line in wrong_lines() + ["read", "clear", "clear if rows"]:
            self.assert_wrong(f"{STOP}\n{line}", 3)
            self.assert_wrong(f"{STOP}\nrow\n{line}\nput", 4)

    def test_lines_in_place_of_a_first_statement(self):
        for line in wrong_lines() + ["hand b from none", "sweep b", "sweep b alone", "reader b span 1"]:
            self.assert_wrong(f"{HEAD}\nhand a from none\n{line}", 2)
            self.assert_wrong(f"{STOP}\nsweep c\n{line}", 4)

    def test_statements_of_another_kind(self):
        for head, good, wrong in (("hand a from none", "put", ["read", "clear", "clear if marked"]),
                                  ("sweep a", "clear", ["put", "row", "done", "drop", "read", "stop if mine"]),
                                  ("reader a", "read", ["put", "strike", "mark", "clear", "skip if notmine",
                                                        "read if file"])):
            for line in wrong:
                self.assert_wrong(f"{HEAD}\n{head}\n{line}", 2)
                self.assert_wrong(f"{HEAD}\n{head}\n{good}\n{line}\n{good}", 3)

    def test_the_text_ends_too_early(self):
        self.assert_wrong(HEAD, 1)
        self.assert_wrong("book own age 6 off 2 keep 3", 1)
        self.assert_wrong(HEAD + "\nhand a from none", 2)
        self.assert_wrong(STOP + "\nsweep b", 4)
        self.assert_wrong(STOP + "\nput\nput\nreader b span 2", 6)

    def test_a_line_feed_too_many(self):
        self.assert_wrong(STOP + "\n", 3)
        self.assert_wrong("\n" + STOP, 0)
        self.assert_wrong(STOP.replace("\n", "\n\n"), 1)
        self.assert_wrong(STOP.replace("\n", "\r\n"), 0)

    def test_two_of_one_name(self):
        self.assert_wrong(f"{STOP}\nhand a from none\nput", 3)
        self.assert_wrong(f"{STOP}\nsweep a\nclear", 3)
        self.assert_wrong(f"{STOP}\nhand b from none\nput\nreader a", 5)

    def test_too_many_handlers(self):
        text = HEAD + "".join(f"\nreader {name}\nread" for name in "abcdef")
        self.assertEqual(len(Book.read(text)), 6)
        self.assert_wrong(text + "\nreader g\nread", 13)
        self.assert_wrong(text + "\nreader g", 13)

    def test_too_many_statements(self):
        six = "\nput" * 6
        self.assertEqual(len(Book.read(f"{HEAD}\nhand a from none{six}")["a"]), 6)
        self.assert_wrong(f"{HEAD}\nhand a from none{six}\nput", 8)
        text = f"{HEAD}\nhand a from none{six}\nhand b from none{six}\nhand c from none" + "\nput" * 4
        self.assertEqual(len(Book.read(text)), 3)
        self.assert_wrong(text + "\nput", 20)
        self.assert_wrong(text + "\nhand d from none\nput", 21)
        self.assert_wrong(text + "\nhand d from none", 21)

    def test_the_first_of_several_wrong_lines(self):
        self.assert_wrong("book\nhand\nputs", 0)
        self.assert_wrong(f"{HEAD}\nhand\nputs", 1)
        self.assert_wrong(f"{HEAD}\nhand a from none\nputs\n\n", 2)

    def test_a_long_text(self):
        self.assert_wrong(f"{HEAD}\nhand a from none" + "\nput" * 700, 8)
        self.assert_wrong("\n" * 3000, 0)
        self.assert_wrong(HEAD + "\n" * 2000, 1)


class TestOtherBooks(BookTestCase):
    def test_with_age(self):
        book = Book.read(STORE)
        for age in range(7):
            self.assertEqual(str(book.with_age(age)), STORE.replace("age 3", f"age {age}"))
        self.assertEqual(str(book.with_age(age=5)), STORE.replace("age 3", "age 5"))
        for age in any_values() + [-1, 8, "3", [3]]:
            if not (type(age) is int and 0 <= age <= 6):
                self.assert_refused(BadBook, "age", book.with_age, age)
        self.assertEqual(str(book), STORE)

    def test_with_spans(self):
        book = Book.read(STORE)
        self.assertEqual(book.with_spans(), book)
        self.assertEqual(str(book.with_spans(store=None)), STORE.replace(" span 2", ""))
        self.assertEqual(str(book.with_spans(broom=0, store=3)),
                         STORE.replace("span 2", "span 3").replace("alone", "alone span 0"))
        self.assertEqual(str(book.with_spans(broom=None)), STORE)
        own = Book.read(OWN)
        self.assertEqual(str(own.with_spans(eye=None, mop=1, wipe=2)),
                         OWN.replace("eye span 0", "eye").replace("mop", "mop span 1")
                         .replace("from done", "from done span 2"))
        self.assertEqual(str(book), STORE)

    def test_with_spans_refused(self):
        book = Book.read(STORE)
        self.assert_refused(NoHandler, "a", book.with_spans, z=1, a=1, store=9)
        self.assert_refused(NoHandler, "names", book.with_spans, broom=1, names=1)
        self.assert_refused(NoHandler, "zeal", book.with_spans, zeal=2)
        for span in any_values() + [4, -1, "1", [1]]:
            if not (span is None or type(span) is int and 0 <= span <= 3):
                self.assert_refused(BadHandler, "span", book.with_spans, store=span)
                self.assert_refused(BadHandler, "span", book.with_spans, broom=1, store=span)
        self.assertEqual(str(book), STORE)

    def test_equality(self):
        texts = [STORE, OWN, STORE.replace("age 3", "age 2"), STORE.replace(" off 1", ""),
                 STORE.replace("off 1", "off 1 keep 0"), STORE.replace("shared", "own"),
                 STORE.replace("span 2", "span 1"), STORE.replace(" alone", ""), STORE + "\ntouch"]
        for at, one in enumerate(texts):
            for to, other in enumerate(texts):
                self.assertIs(Book.read(one) == Book.read(other), at == to)
                self.assertIs(Book.read(one) != Book.read(other), at != to)
        first, second = Hand("a", "put"), Reader("b", "read")
        self.assertNotEqual(Book(first, second), Book(second, first))

    def test_equal_to_nothing_of_another_class(self):
        book = Book.read(STORE)
        for other in any_values() + [STORE, STORE.split("\n"), book.handlers, book["store"], Book, Span(3)]:
            self.assertIs(book == other, False)
            self.assertIs(other == book, False)
            self.assertIs(book != other, True)


class TestNewThings(BookTestCase):
    def test_handlers_are_copied(self):
        first = Hand("a", "put", span=1)
        book, other = Book(first), Book(first)
        later = book.with_age(2)
        first.span = 3
        first.name = "b"
        first.statements[0].text = "row"
        expected = "book shared age 0\nhand a from none span 1\nput"
        self.assertEqual(str(book), expected)
        book["a"].span = 2
        self.assertEqual(str(other), expected)
        self.assertEqual(str(later), expected.replace("age 0", "age 2"))

    def test_results_are_new(self):
        book = Book.read(STORE)
        book.lines().clear()
        book.lines()[0] = "x"
        list(book).clear()
        self.assertEqual(str(book), STORE)
        self.assertIsNot(book.with_age(3), book)
        self.assertIsNot(book.with_spans(), book)

    def test_iterations_do_not_disturb_each_other(self):
        book = Book.read(OWN)
        pairs = [(one.name, other.name) for one in book for other in book]
        self.assertEqual(len(pairs), 16)


class TestInterface(unittest.TestCase):
    def test_parameters(self):
        self.assertEqual(str(inspect.signature(Book)), "(*handlers, names='shared', age=0, off=0, keep=None)")
        self.assertEqual(str(inspect.signature(Book.with_spans)), "(self, **spans)")
        self.assertEqual(str(inspect.signature(Book.with_age)), "(self, age)")
        self.assertEqual(str(inspect.signature(Book.read)), "(text)")
        self.assertEqual(Book.read(text=STORE), Book.read(STORE))

    def test_members_stand_in_the_class_itself(self):
        for name in ("__init__", "__len__", "__iter__", "__getitem__", "__contains__", "__str__", "__eq__", "lines",
                     "with_age", "with_spans", "read", "top", "MOST_HANDLERS", "MOST_STATEMENTS", "MOST_AGE"):
            self.assertIn(name, vars(Book))
        self.assertIsInstance(vars(Book)["top"], property)
        self.assertIsInstance(vars(Book)["read"], classmethod)
        self.assertEqual(Book.__module__, "strayfiles.books")
        self.assertIs(books.Book, Book)


if __name__ == "__main__":
    unittest.main()
