"""Books: the handlers of a program, how they name files, and what they know of time."""

from strayfiles.errors import BadBook, BadLine, NoHandler
from strayfiles.handlers import MOST_PER_HANDLER, MOST_SPAN, Hand, Reader, Sweep, is_name
from strayfiles.order import ascending
from strayfiles.statements import may_have
from strayfiles.times import is_between

NAMINGS = ("shared", "own")
MOST_OFF = 2
MOST_KEEP = 3

KINDS = ("hand", "sweep", "reader")
DIGITS = "0123456789"


def tail_number(words, key, least, most):
    """The number of the last two words, if they are the key and a digit within the bounds; else None."""
    if len(words) < 2 or words[-2] != key or len(words[-1]) != 1 or words[-1] not in DIGITS:
        return None
    number = int(words[-1])
    return number if least <= number <= most else None


def book_fields(line):
    """Names, age, off and keep off the first line of a book; None if the line is wrong."""
    words = line.split(" ")
    keep = tail_number(words, "keep", 0, MOST_KEEP)
    if keep is not None:
        words = words[:-2]
    off = tail_number(words, "off", 1, MOST_OFF)
    if off is not None:
        words = words[:-2]
    age = tail_number(words, "age", 0, Book.MOST_AGE)
    if age is None or len(words) != 4 or words[0] != "book" or words[1] not in NAMINGS:
        return None
    return words[1], age, 0 if off is None else off, keep


def head_fields(line):
    """Kind, name, manner (a tuple of words) and span off a head line; None if the line is wrong."""
    words = line.split(" ")
    if len(words) < 2 or words[0] not in KINDS or not is_name(words[1]):
        return None
    kind, name, *manner = words
    span = tail_number(manner, "span", 0, MOST_SPAN)
    if span is not None:
        manner = manner[:-2]
    if tuple(manner) not in manners_of(kind):
        return None
    return kind, name, tuple(manner), span


def manners_of(kind):
    """What may stand between the name and the span in a head line, as tuples of words."""
    if kind == "hand":
        return (("from", "none"), ("from", "open"), ("from", "done"))
    if kind == "sweep":
        return ((), ("alone",))
    return ((),)


def made_handler(head, texts):
    """The handler with these fields of a head line and these statements."""
    kind, name, manner, span = head
    if kind == "hand":
        begins = manner[1]
        return Hand(name, *texts, begins=begins, span=span)
    if kind == "sweep":
        alone = manner == ("alone",)
        return Sweep(name, *texts, alone=alone, span=span)
    return Reader(name, *texts, span=span)


class Draft:
    """The handlers of a written book, as far as its lines are taken."""

    def __init__(self):
        self.heads = []
        self.groups = []

    def takes_head(self, line):
        """Whether a line is a head line that may stand here; it is taken then."""
        head = head_fields(line)
        if head is None or len(self.heads) == Book.MOST_HANDLERS or (self.heads and not self.groups[-1]):
            return False
        if head[1] in [name for _, name, _, _ in self.heads]:
            return False
        self.heads.append(head)
        self.groups.append([])
        return True

    def takes_statement(self, line):
        """Whether a line is a statement that may stand here; it is taken then."""
        if not self.heads or not may_have(self.heads[-1][0], line):
            return False
        many = sum([len(texts) for texts in self.groups])
        if len(self.groups[-1]) == MOST_PER_HANDLER or many == Book.MOST_STATEMENTS:
            return False
        self.groups[-1].append(line)
        return True

    def is_whole_book(self):
        """Whether the lines may end here."""
        return bool(self.heads) and bool(self.groups[-1])

    def made_handlers(self):
        """The handlers that were taken."""
        return [made_handler(head, texts) for head, texts in zip(self.heads, self.groups)]


def read_handlers(lines):
    """The handlers off the lines of a book."""
    draft = Draft()
    for at, line in enumerate(lines):
        # The line 0 is that of the book itself.
        if at > 0 and not draft.takes_head(line) and not draft.takes_statement(line):
            raise BadLine(at)
    if not draft.is_whole_book():
        raise BadLine(len(lines))
    return draft.made_handlers()


class Book:
    """One to six handlers, with all that bears on what they do."""

    MOST_HANDLERS = 6
    MOST_STATEMENTS = 16
    MOST_AGE = 6

    def __init__(self, *handlers, names="shared", age=0, off=0, keep=None):
        if not 1 <= len(handlers) <= self.MOST_HANDLERS:
            raise BadBook("handlers")
        by_name = {handler.name: handler.with_span(handler.span) for handler in handlers}
        if len(by_name) < len(handlers):
            raise BadBook("handlers")
        if sum([len(handler) for handler in handlers]) > self.MOST_STATEMENTS:
            raise BadBook("statements")
        if not isinstance(names, str) or names not in NAMINGS:
            raise BadBook("names")
        if not is_between(age, 0, self.MOST_AGE):
            raise BadBook("age")
        if not is_between(off, 0, MOST_OFF):
            raise BadBook("off")
        if keep is not None and not is_between(keep, 0, MOST_KEEP):
            raise BadBook("keep")
        self._by_name = by_name
        self.handlers = tuple(list(by_name.values()))
        self.names = names
        self.age = age
        self.off = off
        self.keep = keep

    @classmethod
    def read(cls, text):
        """The book that is written so."""
        if not isinstance(text, str):
            raise BadLine(-1)
        lines = text.split("\n")
        fields = book_fields(lines[0])
        if fields is None:
            raise BadLine(0)
        names, age, off, keep = fields
        handlers = read_handlers(lines)
        return cls(*handlers, names=names, age=age, off=off, keep=keep)

    @property
    def top(self):
        """The top age: nothing distinguishes greater ages."""
        return self.age + self.off

    def __len__(self):
        return len(self.handlers)

    def __iter__(self):
        return iter(self.handlers)

    def __contains__(self, x):
        return isinstance(x, str) and x in self._by_name

    def __getitem__(self, at):
        if at not in self:
            raise NoHandler(at)
        return self._by_name[at]

    def lines(self):
        """The lines in which the book is written."""
        off = f" off {self.off}" if self.off != 0 else ""
        keep = "" if self.keep is None else f" keep {self.keep}"
        lines = [f"book {self.names} age {self.age}{off}{keep}"]
        for handler in self.handlers:
            lines = lines + handler.lines()
        return lines

    def __str__(self):
        return "\n".join(self.lines())

    def __eq__(self, other):
        return isinstance(other, Book) and self.lines() == other.lines()

    def with_age(self, age):
        """The same book with this age."""
        return Book(*self.handlers, names=self.names, age=age, off=self.off, keep=self.keep)

    def with_spans(self, **spans):
        """The same book in which the handlers so called have these spans."""
        for name in ascending(list(spans)):
            if name not in self:
                raise NoHandler(name)
        handlers = [handler.with_span(spans.get(handler.name, handler.span)) for handler in self.handlers]
        return Book(*handlers, names=self.names, age=self.age, off=self.off, keep=self.keep)
