"""Statements: the texts that say what a run of a handler does."""

from strayfiles.errors import BadStatement

LOOKS = ("stop", "skip", "again")

FILE_CONDITIONS = ("file", "nofile", "old", "young")
ROW_CONDITIONS = ("rows", "norows", "named", "unnamed", "marked", "unmarked", "ripe", "unripe")
MARK_CONDITIONS = ("marked", "unmarked", "ripe", "unripe")
OWN_CONDITIONS = ("mine", "notmine")

FILE_ACTS = ("put", "touch", "strike")
MARK_ACTS = ("mark", "unmark", "clear")
OWN_ACTS = ("row", "done", "drop")

HAND_ACTS = ("put", "touch", "strike", "row", "done", "drop", "mark", "unmark")
SWEEP_ACTS = ("touch", "strike", "mark", "unmark", "clear")
READER_ACTS = ("touch", "read")


def acts_of(kind):
    """The words of the acts that a handler of this kind may have."""
    if kind == "sweep":
        return SWEEP_ACTS
    if kind == "reader":
        return READER_ACTS
    return HAND_ACTS


def look_conditions(kind):
    """The conditions that a look of a handler of this kind may have."""
    if kind == "hand":
        return FILE_CONDITIONS + ROW_CONDITIONS + OWN_CONDITIONS
    return FILE_CONDITIONS + ROW_CONDITIONS


def act_conditions(word):
    """The conditions under which an act may stand: those of the house at which it acts."""
    if word in FILE_ACTS:
        return FILE_CONDITIONS
    if word in MARK_ACTS:
        return ROW_CONDITIONS
    if word in OWN_ACTS:
        return MARK_CONDITIONS
    return ()


def conditions_of(word, kind):
    """The conditions that a statement with this first word may have; none for a wrong word."""
    if word in LOOKS:
        return look_conditions(kind)
    if word in acts_of(kind):
        return act_conditions(word)
    return ()


def may_have(kind, text):
    """Whether a value is a statement that a handler of this kind may have."""
    if not isinstance(text, str):
        return False
    words = text.split(" ")
    if len(words) == 1:
        return text in acts_of(kind)
    return len(words) == 3 and words[1] == "if" and words[2] in conditions_of(words[0], kind)


class Statement:
    """A look or an act of a handler."""

    def __init__(self, text, *, kind="hand"):
        if not may_have(kind, text):
            raise BadStatement(text)
        words = text.split(" ")
        self.text = text
        self.word = words[0]
        self.condition = words[2] if len(words) == 3 else None

    @property
    def is_look(self):
        """Whether the statement changes nothing and only decides how the run goes on."""
        return self.word in LOOKS

    def __str__(self):
        return str(self.text)

    def __eq__(self, other):
        return isinstance(other, Statement) and self.text == other.text
