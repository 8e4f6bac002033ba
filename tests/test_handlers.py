"""Points 5, 6 and 7: words, and handlers of the three kinds."""

import inspect
import unittest

from strayfiles import handlers
from strayfiles.errors import BadHandler, BadStatement, StrayfilesError
from strayfiles.handlers import Hand, Handler, Reader, Sweep
from strayfiles.statements import Statement
from strayfiles.times import Moment, Span
from tests.samples import TEXTS, any_values

WITH = {"hand": Hand, "sweep": Sweep, "reader": Reader}
TEXT = {"hand": "put", "sweep": "strike", "reader": "read"}

WRONG_NAMES = ["", "abcdefghi", "Store", "STORE", "s1", "1", "a b", " a", "a ", "a\n", "\na", "a-b", "a_b",
               "\u00e4", "\u0430", "self", "age", "off"]
WRONG_SPANS = [-1, 4, 5, 10 ** 29, -10 ** 29, True, False, "", "1", "None", (), (1,), [1], [], b"1", Span(1)]
WRONG_BEGINS = ["", "None", "OPEN", "none ", "idle", "nonedone", 0, 1, None, True, ["open"], ("open",), [], (), Span(0)]


class HandlerTestCase(unittest.TestCase):
    def assert_refused(self, field, make, *args, **named):
        """Refused by BadHandler with this field."""
        with self.assertRaises(StrayfilesError) as seen:
            make(*args, **named)
        self.assertIs(type(seen.exception), BadHandler)
        self.assertEqual(seen.exception.field, field)

    def assert_wrong_text(self, text, make, *args, **named):
        """Refused by BadStatement with this very value."""
        with self.assertRaises(StrayfilesError) as seen:
            make(*args, **named)
        self.assertIs(type(seen.exception), BadStatement)
        self.assertIs(seen.exception.text, text)


class TestFields(HandlerTestCase):
    def test_a_hand(self):
        made = Hand("store", "skip if file", "put", "done", begins="open", span=2)
        self.assertEqual((made.name, made.begins, made.span, made.kind), ("store", "open", 2, "hand"))
        self.assertEqual(made.statements, (Statement("skip if file"), Statement("put"), Statement("done")))
        self.assertIsInstance(made.statements, tuple)
        self.assertEqual(len(made), 3)
        self.assertEqual([statement.text for statement in made], ["skip if file", "put", "done"])
        self.assertEqual(made.head(), "hand store from open span 2")
        self.assertEqual(made.lines(), ["hand store from open span 2", "skip if file", "put", "done"])

    def test_a_sweep(self):
        made = Sweep("broom", "stop if rows", "strike if old", alone=True, span=0)
        self.assertEqual((made.name, made.alone, made.span, made.kind), ("broom", True, 0, "sweep"))
        self.assertEqual(made.lines(), ["sweep broom alone span 0", "stop if rows", "strike if old"])
        self.assertEqual(Sweep("broom", "clear").head(), "sweep broom")
        self.assertIs(Sweep("broom", "clear").alone, False)

    def test_a_reader(self):
        made = Reader("eye", "touch if young", "read", span=3)
        self.assertEqual((made.name, made.span, made.kind), ("eye", 3, "reader"))
        self.assertEqual(made.lines(), ["reader eye span 3", "touch if young", "read"])
        self.assertEqual(Reader("eye", "read").head(), "reader eye")

    def test_what_is_left_out(self):
        self.assertEqual(Hand("store", "put").begins, "none")
        for make in (Hand, Sweep, Reader):
            self.assertIsNone(make("store", "touch").span)

    def test_head_lines(self):
        self.assertEqual(Hand("from", "put", begins="none").head(), "hand from from none")
        self.assertEqual(Hand("from", "put", begins="done").head(), "hand from from done")
        self.assertEqual(Hand("span", "put", span=0).head(), "hand span from none span 0")
        self.assertEqual(Sweep("alone", "clear").head(), "sweep alone")
        self.assertEqual(Sweep("alone", "clear", alone=True).head(), "sweep alone alone")
        self.assertEqual(Reader("reader", "read", span=1).head(), "reader reader span 1")

    def test_kind_is_a_class_value(self):
        for kind, make in WITH.items():
            self.assertEqual(make.kind, kind)
            self.assertIn("kind", vars(make))
            self.assertNotIn("kind", vars(make("a", TEXT[kind])))

    def test_attributes_are_set_on_each_object(self):
        for make, names in ((Hand, ["name", "span", "statements", "begins"]),
                            (Sweep, ["name", "span", "statements", "alone"]),
                            (Reader, ["name", "span", "statements"])):
            made = make("a", "touch")
            for name in names:
                self.assertIn(name, vars(made))

    def test_all_are_handlers(self):
        for make in (Hand, Sweep, Reader):
            self.assertIs(make.__base__, Handler)

    def test_each_kind_takes_each_of_its_statements(self):
        for kind, make in WITH.items():
            for texts in TEXTS[kind].values():
                for text in texts:
                    made = make("a", text)
                    self.assertEqual(made.lines()[1:], [text])
                    self.assertEqual(made.statements[0].word, text.split()[0])

    def test_by_name(self):
        self.assertEqual(Hand("a", "put", span=1, begins="done").head(), "hand a from done span 1")
        for make in (Hand, Sweep, Reader):
            self.assert_refused("statements", make, name="a")
            self.assertEqual(list(inspect.signature(make).parameters)[:2], ["name", "statements"])
        with self.assertRaises(TypeError):
            Hand()

    def test_each_bound(self):
        for kind, make in WITH.items():
            for name in ("a", "z", "abcdefgh", "selfs", "ages", "offs", "put", "book", "none"):
                self.assertEqual(make(name, TEXT[kind]).name, name)
            for span in (None, 0, 1, 2, 3):
                self.assertEqual(make("a", TEXT[kind], span=span).span, span)
            for many in range(1, 7):
                self.assertEqual(len(make("a", *[TEXT[kind]] * many)), many)
        for begins in ("none", "open", "done"):
            self.assertEqual(Hand("a", "put", begins=begins).begins, begins)


class TestWrong(HandlerTestCase):
    def test_names(self):
        for kind, make in WITH.items():
            for name in WRONG_NAMES + any_values():
                with self.subTest(kind=kind, name=repr(name)[:40]):
                    self.assert_refused("name", make, name, TEXT[kind])

    def test_begins(self):
        for begins in WRONG_BEGINS + any_values():
            with self.subTest(begins=repr(begins)[:40]):
                self.assert_refused("begins", Hand, "a", "put", begins=begins)

    def test_spans(self):
        good = [0, 1, 2, None]
        wrong = WRONG_SPANS + [value for value in any_values()
                               if not (type(value) in (int, type(None)) and value in good)]
        for kind, make in WITH.items():
            for span in wrong:
                with self.subTest(kind=kind, span=repr(span)[:40]):
                    self.assert_refused("span", make, "a", TEXT[kind], span=span)

    def test_how_many_statements(self):
        for kind, make in WITH.items():
            self.assert_refused("statements", make, "a")
            self.assert_refused("statements", make, "a", *[TEXT[kind]] * 7)
            self.assert_refused("statements", make, "a", *[TEXT[kind]] * 300)

    def test_statements(self):
        for kind, make in WITH.items():
            for text in any_values() + [[TEXT[kind]], (TEXT[kind],), Statement(TEXT[kind], kind=kind),
                                        TEXT[kind] + " ", "put  if file", "stop", "if", "hand a from none"]:
                with self.subTest(kind=kind, text=repr(text)[:40]):
                    self.assert_wrong_text(text, make, "a", text)
                    self.assert_wrong_text(text, make, "a", TEXT[kind], text, TEXT[kind])

    def test_statements_of_other_kinds(self):
        for kind, make in WITH.items():
            for other in WITH:
                for word in TEXTS[other]:
                    for text in TEXTS[other][word]:
                        if text not in TEXTS[kind].get(word, []):
                            self.assert_wrong_text(text, make, "a", TEXT[kind], text)

    def test_the_first_wrong_statement(self):
        first, second = ["first"], ["second"]
        self.assert_wrong_text(first, Hand, "a", "put", first, "row", second)
        self.assert_wrong_text(second, Hand, "a", second, "row", first)

    def test_order_of_the_errors(self):
        self.assert_refused("name", Hand, "A", *["x"] * 7, begins="x", span=7)
        self.assert_refused("begins", Hand, "a", *["x"] * 7, begins="x", span=7)
        self.assert_refused("span", Hand, "a", *["x"] * 7, begins="open", span=7)
        self.assert_refused("statements", Hand, "a", *["x"] * 7, begins="open", span=3)
        self.assert_wrong_text("x", Hand, "a", *["x"] * 6, begins="open", span=3)
        for make in (Sweep, Reader):
            self.assert_refused("name", make, "A", span=7)
            self.assert_refused("span", make, "a", span=7)
            self.assert_refused("statements", make, "a", *["x"] * 7, span=3)
            self.assert_wrong_text("x", make, "a", *["x"] * 6, span=3)

    def test_the_base_class_refuses_the_same(self):
        self.assert_refused("name", Handler, "A", span=7)
        self.assert_refused("span", Handler, "a", span=7)
        self.assert_refused("statements", Handler, "a", span=3)


class TestEquality(HandlerTestCase):
    def test_same_class_and_equal_lines(self):
        def some():
            return [Hand("a", "touch"), Hand("b", "touch"), Hand("a", "touch", begins="open"),
                    Hand("a", "touch", begins="done"), Hand("a", "touch", span=0), Hand("a", "touch", span=1),
                    Hand("a", "touch", "touch"), Hand("a", "touch if old"), Sweep("a", "touch"),
                    Sweep("a", "touch", alone=True), Sweep("a", "touch", span=0), Sweep("alone", "touch"),
                    Reader("a", "touch"), Reader("a", "touch", span=0), Reader("a", "read"),
                    Reader("a", "touch", "read"), Reader("a", "read", "touch")]
        for at, one in enumerate(some()):
            for to, other in enumerate(some()):
                self.assertIs(one == other, at == to)
                self.assertIs(one != other, at != to)

    def test_equal_to_nothing_of_another_class(self):
        for one in (Hand("a", "put"), Sweep("a", "clear"), Reader("a", "read")):
            for other in any_values() + [one.lines(), tuple(one.lines()), one.head(), one.name, type(one),
                                         one.statements, one.statements[0], "a", Span(1), Moment(1)]:
                self.assertIs(one == other, False)
                self.assertIs(other == one, False)
                self.assertIs(one != other, True)


class TestNewThings(HandlerTestCase):
    def test_lines_are_new(self):
        for kind, make in WITH.items():
            made = make("a", TEXT[kind])
            lines = made.lines()
            lines.append("put")
            lines[0] = "hand b from none"
            self.assertEqual(made.lines()[1:], [TEXT[kind]])
            self.assertEqual(len(made), 1)

    def test_arguments_are_not_changed(self):
        texts = ["put", "done"]
        made = Hand("a", *texts)
        texts.append("row")
        texts[0] = "drop"
        self.assertEqual(made.lines()[1:], ["put", "done"])
        wrong = [["put"], 1]
        self.assert_wrong_text(wrong, Hand, "a", "put", wrong)
        self.assertEqual(wrong, [["put"], 1])

    def test_two_handlers_share_nothing(self):
        one, other = Hand("a", "put"), Hand("a", "put")
        one.name, one.span, one.statements[0].text = "b", 1, "row"
        self.assertEqual(other.lines(), ["hand a from none", "put"])


class TestInterface(unittest.TestCase):
    def test_parameters(self):
        expected = {Handler: {"span": None}, Hand: {"begins": "none", "span": None},
                    Sweep: {"alone": False, "span": None}, Reader: {"span": None}}
        for make, defaults in expected.items():
            parameters = inspect.signature(make).parameters
            self.assertEqual(list(parameters), ["name", "statements"] + list(defaults))
            self.assertIs(parameters["statements"].kind, inspect.Parameter.VAR_POSITIONAL)
            for name, default in defaults.items():
                self.assertEqual(parameters[name].default, default)
                self.assertIs(parameters[name].kind, inspect.Parameter.KEYWORD_ONLY)
        self.assertEqual(str(inspect.signature(Handler.__call__)), "(self, world, content, row=0)")

    def test_methods_stand_in_the_class_itself(self):
        for name in ("__init__", "head", "lines", "__len__", "__iter__", "__eq__", "__call__"):
            self.assertIn(name, vars(Handler))
        for make in (Hand, Sweep, Reader):
            self.assertIn("__init__", vars(make))

    def test_where_it_is_defined(self):
        for make in (Handler, Hand, Sweep, Reader):
            self.assertEqual(make.__module__, "strayfiles.handlers")
            self.assertIs(getattr(handlers, make.__name__), make)


if __name__ == "__main__":
    unittest.main()
