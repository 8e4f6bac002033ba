"""The errors of the package. Each keeps the very values that it is made with."""


class StrayfilesError(ValueError):
    """What the errors about wrong values of every kind stand under."""


class BadStatement(StrayfilesError):
    """The text is no statement that a handler of this kind may have."""

    def __init__(self, text):
        self.text = text


class BadHandler(StrayfilesError):
    """This part of a handler is not as it must be."""

    def __init__(self, field):
        self.field = field


class BadBook(StrayfilesError):
    """This part of a book is not as it must be."""

    def __init__(self, field):
        self.field = field


class BadLine(StrayfilesError):
    """The line of a written book that is not as it must be there."""

    def __init__(self, at):
        self.at = at


class BadPlace(StrayfilesError):
    """A row of this number cannot be in a book with own names."""

    def __init__(self, row):
        self.row = row


class BadMove(StrayfilesError):
    """This is no move of the state."""

    def __init__(self, move):
        self.move = move


class BadWalk(StrayfilesError):
    """The move at this index cannot be made there."""

    def __init__(self, at):
        self.at = at


class BadAsks(StrayfilesError):
    """These are not faults that can be asked."""

    def __init__(self, asks):
        self.asks = asks


class BadEvent(StrayfilesError):
    """The event at this index is none, or cannot happen there."""

    def __init__(self, at):
        self.at = at


class BadCare(StrayfilesError):
    """The care at this index cannot be made; -1 if the book would be too large or too small."""

    def __init__(self, at):
        self.at = at


class TooMany(StrayfilesError):
    """There are more of these than were allowed."""

    def __init__(self, what):
        self.what = what


class NoHandler(LookupError):
    """The book has no handler of this name."""

    def __init__(self, name):
        self.name = name


class NoFile(LookupError):
    """This content has no file."""

    def __init__(self, content):
        self.content = content


class NoRow(LookupError):
    """This content has no row of this number."""

    def __init__(self, content, row):
        self.content = content
        self.row = row


class NoRun(LookupError):
    """No run of this number has begun."""

    def __init__(self, run):
        self.run = run


class Busy(RuntimeError):
    """This run stands in the way."""

    def __init__(self, run):
        self.run = run


class NotSo(RuntimeError):
    """The row stands so, and not as it must."""

    def __init__(self, standing):
        self.standing = standing


class Unnamed(RuntimeError):
    """No done row names this content."""

    def __init__(self, content):
        self.content = content


class Over(RuntimeError):
    """This run is over."""

    def __init__(self, run):
        self.run = run


class NotRead(RuntimeError):
    """This reading may not be made."""

    def __init__(self, reading):
        self.reading = reading


class Unfinished(RuntimeError):
    """A run was given up at the statement of this index."""

    def __init__(self, index):
        self.index = index
