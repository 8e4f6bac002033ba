"""Points 5, 6 and 7: words, conditions, statements, and which handler may have which."""

import inspect
import unittest

from strayfiles import statements
from strayfiles.errors import BadStatement, StrayfilesError
from strayfiles.statements import Statement
from strayfiles.times import Moment, Span

KINDS = ("hand", "sweep", "reader")

FIRST_WORDS = ("stop skip again put touch strike row done drop mark unmark clear read").split()

CONDITIONS = ("file nofile old young "
              "rows norows named unnamed marked unmarked ripe unripe "
              "mine notmine").split()

# A row for each first word: who may have it alone, then who may have it under each of the
# conditions in the order above; h, s and r for the kinds, - for none. Read off the document.
TABLE = """
stop    -    hsr hsr hsr hsr  hsr hsr hsr hsr hsr hsr hsr hsr  h h
skip    -    hsr hsr hsr hsr  hsr hsr hsr hsr hsr hsr hsr hsr  h h
again   -    hsr hsr hsr hsr  hsr hsr hsr hsr hsr hsr hsr hsr  h h
put     h    h   h   h   h    -   -   -   -   -   -   -   -    - -
touch   hsr  hsr hsr hsr hsr  -   -   -   -   -   -   -   -    - -
strike  hs   hs  hs  hs  hs   -   -   -   -   -   -   -   -    - -
row     h    -   -   -   -    -   -   -   -   h   h   h   h    - -
done    h    -   -   -   -    -   -   -   -   h   h   h   h    - -
drop    h    -   -   -   -    -   -   -   -   h   h   h   h    - -
mark    hs   -   -   -   -    hs  hs  hs  hs  hs  hs  hs  hs   - -
unmark  hs   -   -   -   -    hs  hs  hs  hs  hs  hs  hs  hs   - -
clear   s    -   -   -   -    s   s   s   s   s   s   s   s    - -
read    r    -   -   -   -    -   -   -   -   -   -   -   -    - -
"""


def read_table():
    """A dict from each pair (kind, text) to whether a handler of this kind may have it."""
    may = {}
    for line in TABLE.strip().split("\n"):
        word, *cells = line.split()
        texts = [word] + [f"{word} if {condition}" for condition in CONDITIONS]
        assert len(cells) == len(texts)
        for text, cell in zip(texts, cells):
            for kind in KINDS:
                may[kind, text] = kind[0] in cell
    return may


MAY = read_table()

ALLOWED = {kind: sorted(text for (one, text), may in MAY.items() if may and one == kind)
           for kind in KINDS}


def spoiled(text):
    """Texts that come from a text by one wrong sign."""
    for at in range(len(text) + 1):
        for sign in ("\n", " ", "\t", "\r", "x", "-", "\u00a0", "\0"):
            yield text[:at] + sign + text[at:]
    for at in range(len(text)):
        yield text[:at] + text[at + 1:]
        yield text[:at] + text[at].upper() + text[at + 1:]
        yield text[:at] + "\n" + text[at + 1:]


class StatementTestCase(unittest.TestCase):
    def assert_refused(self, value, kind):
        """Refused by BadStatement with this very value, and by nothing else."""
        with self.assertRaises(StrayfilesError) as seen:
            Statement(value, kind=kind)
        self.assertIs(type(seen.exception), BadStatement)
        self.assertIs(seen.exception.text, value)


class TestWhichStatements(StatementTestCase):
    def test_the_table_is_whole(self):
        self.assertEqual(len(FIRST_WORDS), 13)
        self.assertEqual(len(CONDITIONS), 14)
        self.assertEqual(len(MAY), 3 * 13 * 15)
        self.assertEqual([len(ALLOWED[kind]) for kind in KINDS], [90, 73, 42])

    def test_each_text_for_each_kind(self):
        for (kind, text), may in MAY.items():
            with self.subTest(kind=kind, text=text):
                if may:
                    self.assertEqual(Statement(text, kind=kind).text, text)
                else:
                    self.assert_refused(text, kind)

    def test_kind_is_hand_if_left_out(self):
        for word in FIRST_WORDS:
            for text in [word] + [f"{word} if {condition}" for condition in CONDITIONS]:
                with self.subTest(text=text):
                    if MAY["hand", text]:
                        self.assertEqual(Statement(text).text, text)
                    else:
                        with self.assertRaises(BadStatement) as seen:
                            Statement(text)
                        self.assertIs(seen.exception.text, text)

    def test_conditions_alone_and_unknown_words(self):
        texts = CONDITIONS + ["if", "self", "age", "off", "hand", "sweep", "reader", "book", "end",
                              "look", "delete", "puts", "pu", "p", "marks", "none", "open"]
        for kind in KINDS:
            for text in texts + [f"{word} if file" for word in texts] + [f"stop if {word}" for word in texts]:
                with self.subTest(kind=kind, text=text):
                    if MAY.get((kind, text)):
                        Statement(text, kind=kind)
                    else:
                        self.assert_refused(text, kind)


class TestFields(StatementTestCase):
    def test_fields_of_each_statement(self):
        for kind in KINDS:
            for text in ALLOWED[kind]:
                with self.subTest(kind=kind, text=text):
                    made = Statement(text, kind=kind)
                    words = text.split()
                    self.assertEqual(made.text, text)
                    self.assertEqual(made.word, words[0])
                    self.assertEqual(made.condition, words[2] if len(words) > 1 else None)
                    self.assertIs(made.is_look, words[0] in ("stop", "skip", "again"))
                    self.assertEqual(str(made), text)

    def test_some_by_hand(self):
        made = Statement("put if nofile")
        self.assertEqual((made.text, made.word, made.condition, made.is_look),
                         ("put if nofile", "put", "nofile", False))
        made = Statement("again if notmine", kind="hand")
        self.assertEqual((made.text, made.word, made.condition, made.is_look),
                         ("again if notmine", "again", "notmine", True))
        made = Statement("read", kind="reader")
        self.assertEqual((made.text, made.word, made.condition, made.is_look),
                         ("read", "read", None, False))
        self.assertEqual(str(Statement(text="clear if unripe", kind="sweep")), "clear if unripe")

    def test_attributes_are_set_on_each_object(self):
        for text in ("put", "stop if mine"):
            made = Statement(text)
            for name in ("text", "word", "condition"):
                self.assertIn(name, vars(made))

    def test_two_statements_share_nothing(self):
        one, other = Statement("put"), Statement("put")
        one.text = "row"
        self.assertEqual(other.text, "put")


class TestEquality(StatementTestCase):
    def test_equal_by_the_text_alone(self):
        for kind in KINDS:
            for other_kind in KINDS:
                for text in ALLOWED[kind]:
                    for other in ALLOWED[other_kind]:
                        one, two = Statement(text, kind=kind), Statement(other, kind=other_kind)
                        self.assertIs(one == two, text == other)
                        self.assertIs(one != two, text != other)

    def test_equal_to_nothing_of_another_class(self):
        class Agreeable:
            text = "put"

            def __eq__(self, other):
                return True

        one = Statement("put")
        for other in ("put", ["put"], ("put",), None, True, 0, b"put", Span(1), Moment(1), object(),
                      Statement):
            with self.subTest(other=other):
                self.assertIs(one == other, False)
                self.assertIs(other == one, False)
                self.assertIs(one != other, True)
                self.assertIs(other != one, True)
        self.assertIs(one == Agreeable(), False)


class TestWrongTexts(StatementTestCase):
    def test_wrong_forms(self):
        texts = ["", " ", "  ", "\n", "if", " if ", "if file", "put if", "put if ", "put  if file",
                 "put if  file", " put", "put ", " put if file", "put if file ", "put\n", "\nput",
                 "put\nif file", "put if\nfile", "put if file\n", "put if fi\nle", "put\tif\tfile",
                 "Put", "PUT", "put If file", "put if File", "stop", "skip", "again",
                 "stop if", "stop file", "stop if not file", "put file", "put if file if old",
                 "put if file old", "put put", "put if put", "stop if stop", "if if if",
                 "stop when file", "put,touch", "put;", "put.", "put if file,old", "'put'",
                 "put\ntouch", "put if file\ntouch"]
        for kind in KINDS:
            for text in texts:
                with self.subTest(kind=kind, text=text):
                    self.assert_refused(text, kind)

    def test_one_wrong_sign(self):
        for kind in KINDS:
            for text in ALLOWED[kind]:
                for wrong in spoiled(text):
                    if not MAY.get((kind, wrong)):
                        with self.subTest(kind=kind, text=text, wrong=wrong):
                            self.assert_refused(wrong, kind)

    def test_words_too_many_or_too_few(self):
        for kind in KINDS:
            for text in ALLOWED[kind]:
                words = text.split()
                for wrong in (text + " if", text + " if file", text + " file", "if " + text,
                              " ".join(words[:2]) if len(words) == 3 else text + " " + text,
                              " ".join(words[1:])):
                    if not MAY.get((kind, wrong)):
                        with self.subTest(kind=kind, text=text, wrong=wrong):
                            self.assert_refused(wrong, kind)

    def test_long_texts(self):
        for kind in KINDS:
            for text in ("p" * 3000, " " * 3000, "\n" * 3000, "put" * 1000, "if " * 1000,
                         "touch" + " " * 2995, "touch if file" + "e" * 2987,
                         ("touch if file " * 300)[:3000], ("touch\n" * 500)):
                with self.subTest(kind=kind, text=text[:20]):
                    self.assert_refused(text, kind)

    def test_other_values_than_a_string(self):
        values = [0, 1, -1, 3, 10 ** 30 - 1, True, False, None, [], (), ["put"], ("put",),
                  ["put", "if", "file"], ("touch", "if", "file"), [["touch"]], (("read",),),
                  [[[[[[[["touch"]]]]]]]], ["touch"] * 2000, (None, True, 1), b"touch", {}, {"touch": 1},
                  Statement("touch"), Span(1), object()]
        for kind in KINDS:
            for value in values:
                with self.subTest(kind=kind, value=repr(value)[:40]):
                    self.assert_refused(value, kind)

    def test_a_refused_list_is_not_changed(self):
        value = ["put", ["if"], "file"]
        self.assert_refused(value, "hand")
        self.assertEqual(value, ["put", ["if"], "file"])

    def test_refusals_leave_no_trace(self):
        self.assert_refused("read", "hand")
        self.assertEqual(Statement("read", kind="reader").text, "read")
        self.assert_refused("read", "hand")
        self.assert_refused("read", "sweep")


class TestInterface(unittest.TestCase):
    def test_parameters(self):
        parameters = inspect.signature(Statement).parameters
        self.assertEqual(list(parameters), ["text", "kind"])
        self.assertEqual(parameters["kind"].default, "hand")
        self.assertIs(parameters["kind"].kind, inspect.Parameter.KEYWORD_ONLY)
        self.assertRaises(TypeError, Statement)
        self.assertRaises(TypeError, Statement, "put", "hand")

    def test_where_it_is_defined(self):
        self.assertEqual(Statement.__module__, "strayfiles.statements")
        self.assertIs(statements.Statement, Statement)

    def test_methods_stand_in_the_class_itself(self):
        for name in ("__init__", "__eq__", "__str__", "is_look"):
            self.assertIn(name, vars(Statement))
        self.assertIsInstance(vars(Statement)["is_look"], property)


if __name__ == "__main__":
    unittest.main()
