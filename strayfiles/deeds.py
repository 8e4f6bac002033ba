"""What a statement does to one content, for states and for worlds alike."""

# The conditions about an age, each with the reading of the age for which it holds.
HOLDS_FOR = {"old": "old", "young": "young", "ripe": "old", "unripe": "young"}

READINGS = ("", "old", "young")


class Sight:
    """What a run sees of its content; an age is -1 where nothing is there."""

    def __init__(self, age, mark, rows, named, own):
        self.age = age
        self.mark = mark
        # Whether there are rows, and whether one of them is done.
        self.rows = rows
        self.named = named
        # How the own row stands: open, done or none.
        self.own = own


def age_to_read(statement, sight):
    """The age that a statement has to read; -1 if there is none, so that no reading matters."""
    if statement.condition in ("old", "young"):
        return sight.age
    if statement.condition in ("ripe", "unripe"):
        return sight.mark
    return -1


def may_read(book, age):
    """The readings of an age that may be made, ascending."""
    readings = []
    if age >= book.age - book.off:
        readings.append("old")
    if age < book.age + book.off:
        readings.append("young")
    return readings


def right_reading(book, age):
    """The reading of an age by a right clock."""
    return "old" if age >= book.age else "young"


def rightly(book, statement, sight):
    """The right reading with which a statement is carried out; the empty one if none matters."""
    age = age_to_read(statement, sight)
    return right_reading(book, age) if age >= 0 else ""


def readings_of(book, statement, sight):
    """The readings with which a statement may be carried out, ascending; the empty one if none matters."""
    age = age_to_read(statement, sight)
    return may_read(book, age) if age >= 0 else [""]


def holds(condition, sight, reading):
    """Whether a condition holds; the reading is empty where none matters."""
    if condition in HOLDS_FOR:
        return reading == HOLDS_FOR[condition]
    if condition in ("file", "nofile"):
        return (sight.age >= 0) == (condition == "file")
    if condition in ("rows", "norows"):
        return sight.rows == (condition == "rows")
    if condition in ("named", "unnamed"):
        return sight.named == (condition == "named")
    if condition in ("marked", "unmarked"):
        return (sight.mark >= 0) == (condition == "marked")
    return (sight.own != "none") == (condition == "mine")


def carried_out(handler, index, sight, reading):
    """Where a run stands after a statement (behind the last one if it is over), and whether it acts."""
    statement = handler.statements[index]
    held = statement.condition is None or holds(statement.condition, sight, reading)
    if not statement.is_look:
        return index + 1, held
    if held and statement.word == "stop":
        return len(handler), False
    if held and statement.word == "again":
        return 0, False
    if held:
        return min(index + 2, len(handler)), False
    return index + 1, False


def acted(word, sight):
    """Age, mark and standing of the own row after an act."""
    age, mark, own = sight.age, sight.mark, sight.own
    if word == "put" or (word == "touch" and age >= 0):
        age = 0
    elif word == "strike":
        age = -1
    elif word == "mark" and mark < 0:
        mark = 0
    elif word == "unmark":
        mark = -1
    elif word == "row" and own == "none":
        own = "open"
    elif word == "done":
        own = "done"
    elif word == "drop":
        own = "none"
    return age, mark, own
