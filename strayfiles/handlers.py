"""Handlers: hands, which work at a row of their own, sweeps and readers."""

from strayfiles.errors import BadHandler, NotRead, Unfinished
from strayfiles.statements import Statement
from strayfiles.times import is_between

LETTERS = "abcdefghijklmnopqrstuvwxyz"
MOST_LETTERS = 8
# Parameters that stand beside handlers' names are called so.
NO_NAMES = ("self", "age", "off")

BEGINNINGS = ("none", "open", "done")
MOST_SPAN = 3
MOST_PER_HANDLER = 6

# A run that goes on for ever is given up after so many statements.
MOST_STEPS = 24


def is_word(thing):
    """Whether a value is a word: one to eight letters."""
    if not isinstance(thing, str) or not 1 <= len(thing) <= MOST_LETTERS:
        return False
    return all([letter in LETTERS for letter in thing])


def is_name(thing):
    """Whether a value is a word that a handler may have as its name."""
    return is_word(thing) and thing not in NO_NAMES


def is_span(thing):
    """Whether a value is a span of a handler, or None for no bound."""
    return thing is None or is_between(thing, 0, MOST_SPAN)


class Handler:
    """What all handlers have in common; only a base class."""

    # Each class below has its own.
    kind = ""

    def __init__(self, name, *statements, span=None):
        if not is_name(name):
            raise BadHandler("name")
        if not is_span(span):
            raise BadHandler("span")
        if not 1 <= len(statements) <= MOST_PER_HANDLER:
            raise BadHandler("statements")
        self.name = name
        self.span = span
        self.statements = tuple([Statement(text, kind=self.kind) for text in statements])

    def __len__(self):
        return len(self.statements)

    def __iter__(self):
        return iter(self.statements)

    def manner(self):
        """What the head line says between the name and the span."""
        return ""

    def head(self):
        """The head line."""
        span = "" if self.span is None else f" span {self.span}"
        return f"{self.kind} {self.name}{self.manner()}{span}"

    def lines(self):
        """The head line and the statements."""
        return [self.head()] + self.texts()

    def texts(self):
        """The texts of the statements."""
        return [statement.text for statement in self.statements]

    def __eq__(self, other):
        return isinstance(other, Handler) and self.lines() == other.lines()

    def __call__(self, world, content, row=0):
        run = world.begin(self.name, content, row)
        carried = []
        while run in world.running(content):
            if len(carried) == MOST_STEPS:
                index = world.stands(run)[3]
                world.fall(run)
                raise Unfinished(index)
            try:
                carried.append(world.step(run))
            except NotRead:
                world.fall(run)
                raise
        return carried


class Hand(Handler):
    """A handler that works at one row of its own."""

    kind = "hand"

    def __init__(self, name, *statements, begins="none", span=None):
        # Before the span and the statements, which the base class looks at.
        if not is_name(name):
            raise BadHandler("name")
        if not isinstance(begins, str) or begins not in BEGINNINGS:
            raise BadHandler("begins")
        Handler.__init__(self, name, *statements, span=span)
        self.begins = begins

    def manner(self):
        return f" from {self.begins}"

    def with_span(self, span):
        """The same hand with this span."""
        texts = self.texts()
        return Hand(self.name, *texts, begins=self.begins, span=span)


class Sweep(Handler):
    """A handler without a row; perhaps no two such are called at once."""

    kind = "sweep"

    def __init__(self, name, *statements, alone=False, span=None):
        Handler.__init__(self, name, *statements, span=span)
        self.alone = alone

    def manner(self):
        return " alone" if self.alone else ""

    def with_span(self, span):
        """The same sweep with this span."""
        texts = self.texts()
        return Sweep(self.name, *texts, alone=self.alone, span=span)


class Reader(Handler):
    """A handler without a row that reads the file."""

    kind = "reader"

    def __init__(self, name, *statements, span=None):
        Handler.__init__(self, name, *statements, span=span)

    def with_span(self, span):
        """The same reader with this span."""
        texts = self.texts()
        return Reader(self.name, *texts, span=span)
