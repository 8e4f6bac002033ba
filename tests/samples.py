"""Books and values that several tests use."""

import random

from strayfiles.books import Book
from strayfiles.handlers import Hand, Reader, Sweep
from strayfiles.statements import may_have
from strayfiles.times import Moment, Span

LOOKS = ["stop", "skip", "again"]
ACTS = {
    "hand": ["put", "touch", "strike", "row", "done", "drop", "mark", "unmark"],
    "sweep": ["touch", "strike", "mark", "unmark", "clear"],
    "reader": ["touch", "read"],
}
CONDITIONS = ("file nofile old young rows norows named unnamed marked unmarked ripe unripe "
              "mine notmine").split()

STORE = """book shared age 3 off 1
hand store from none span 2
skip if file
put
done
sweep broom alone
stop if rows
strike if old"""

OWN = """book own age 1 keep 2
hand make from none span 1
row
put
done
hand wipe from done
drop
strike
reader eye span 0
touch if old
read
sweep mop
mark
unmark if ripe
clear"""


def any_values():
    """New values of many kinds, each time the same ones; none is a word, a state, a move or an event."""
    return [
        0, 1, -1, 2, 7, 10 ** 30 - 1, -(10 ** 30 - 1), True, False, None, "", " ", "two words", "line\nfeed",
        "x" * 3000, "\u00e4", [], (), {}, [1, True, None], ("a", ["b", ("c",)]), [[[[[[[[]]]]]]]],
        (((((((()))))))), ["tick"], ("tack",), (True,), (None, "tick"), (("tick",),), b"tick", {"tick": 1},
        Span(1), Moment(1), object(), list(range(2000)), tuple(range(2000)),
    ]


def texts_of(kind):
    """For each first word of a statement all statements with it that a handler of this kind may have."""
    texts = {}
    for word in LOOKS + ACTS[kind]:
        for text in [word] + [f"{word} if {condition}" for condition in CONDITIONS]:
            if may_have(kind, text):
                texts.setdefault(word, []).append(text)
    return texts


TEXTS = {kind: texts_of(kind) for kind in ACTS}


def random_text(chance, kind):
    """A statement; hands act more often than chance would have it, so that something happens."""
    if kind == "hand" and chance.random() < 0.4:
        return chance.choice(["put", "row", "done", "drop", "mark", "put if old", "done if marked"])
    return chance.choice(TEXTS[kind][chance.choice(sorted(TEXTS[kind]))])


def random_book(seed):
    """A small book, for each seed the same one."""
    chance = random.Random(seed)
    handlers = []
    for name in chance.sample(["a", "b", "store", "alone", "span"], chance.choice([1, 2, 2, 3])):
        kind = chance.choice(["hand", "hand", "hand", "sweep", "sweep", "reader"]) if handlers else "hand"
        texts = [random_text(chance, kind) for _ in range(chance.randint(1, 4))]
        span = chance.choice([None, None, 0, 1, 2, 3])
        if kind == "hand":
            begins = chance.choice(["none", "open", "done"]) if handlers else "none"
            handlers.append(Hand(name, *texts, begins=begins, span=span))
        elif kind == "sweep":
            handlers.append(Sweep(name, *texts, alone=chance.random() < 0.5, span=span))
        else:
            handlers.append(Reader(name, *texts, span=span))
    return Book(*handlers, names=chance.choice(["shared", "own"]), age=chance.choice([0, 1, 2, 3]),
                off=chance.choice([0, 0, 1, 2]), keep=chance.choice([None, None, 0, 1, 2, 3]))


HANDS = {
    "none": [("put", "done"), ("done", "put"), ("row", "put", "done"), ("skip if file", "put", "done"), ("put",),
             ("put", "row if unmarked"), ("put if nofile", "mark", "done if marked"), ("row", "done if ripe", "put")],
    "open": [("put if old", "done"), ("drop",), ("done",), ("touch", "stop if nofile", "done"), ("unmark", "drop")],
    "done": [("drop", "strike"), ("drop",), ("stop if file", "put"), ("touch if old", "drop", "strike if old")],
}
SWEEPS = [("stop if named", "strike if old"), ("strike if old",), ("stop if rows", "strike"), ("clear",),
          ("mark if unnamed", "unmark if named", "stop if unripe", "strike if old"), ("clear", "strike"),
          ("stop if marked", "mark", "clear"), ("skip if nofile", "again if young", "unmark"), ("touch if old",)]
READERS = [("read",), ("stop if nofile", "read"), ("touch", "read"), ("again if nofile", "read")]


def likely_book(seed):
    """A small book of handlers as there are in programs, for each seed the same one."""
    chance = random.Random(seed)
    spans = [None, None, 0, 1, 2]
    handlers = [Hand("store", *chance.choice(HANDS["none"]), span=chance.choice(spans))]
    if chance.random() < 0.5:
        begins = chance.choice(sorted(HANDS))
        handlers.append(Hand("wipe", *chance.choice(HANDS[begins]), begins=begins, span=chance.choice(spans)))
    for name in chance.choice([[], ["broom"], ["broom"], ["broom", "alp"]]):
        handlers.append(Sweep(name, *chance.choice(SWEEPS), alone=chance.random() < 0.5, span=chance.choice(spans)))
    if chance.random() < 0.3:
        handlers.append(Reader("eye", *chance.choice(READERS), span=chance.choice(spans)))
    return Book(*handlers, names=chance.choice(["shared", "shared", "own"]), age=chance.choice([0, 1, 2]),
                off=chance.choice([0, 0, 0, 1]), keep=chance.choice([None, None, None, 1]))
