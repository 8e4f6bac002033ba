"""Judging books: whether faults can happen, with a certificate of what was found."""

from strayfiles.calm import FAULTS, Finder, are_asks
from strayfiles.errors import BadAsks, TooMany
from strayfiles.moves import Search, moves_to, walked


class Verdict:
    """What was found of a book: that it is kept, or how it is broken."""

    def __init__(self, certificate, states, faults):
        self.certificate = certificate
        # Those of the table, or those of the walk.
        self._states = states
        self._faults = faults

    @property
    def weaving(self):
        """The moves to a fault; () if the book is kept."""
        return () if self.certificate[0] == "kept" else self.certificate[1]

    @property
    def faults(self):
        """All faults of the last state of the walk; () if the book is kept."""
        return self._faults

    def __bool__(self):
        return bool(self.certificate[0] == "kept")

    def __len__(self):
        return len(self.certificate[1])

    def __iter__(self):
        return iter(self._states)


def kept_verdict(search):
    """The verdict that no state which was found has an asked fault."""
    states = tuple(search.states())
    return Verdict(("kept", states), states, ())


def broken_verdict(search, finder, state):
    """The verdict that moves lead to a state with an asked fault."""
    moves = tuple(moves_to(search.came, state))
    states = tuple(walked(search.book, moves))
    return Verdict(("broken", moves), states, finder.faults_of(state, FAULTS))


def judge(book, *, asks=("lost", "blind", "stray"), most=100):
    """Whether a book is free of the faults that are asked."""
    if not are_asks(asks, FAULTS):
        raise BadAsks(asks)
    finder = Finder(book)
    search = Search(book)
    while search.level:
        for state in search.level:
            if not finder.is_free(state, asks):
                return broken_verdict(search, finder, state)
        # The states of a level on which a fault appears would not count.
        if len(search.came) > most:
            raise TooMany("states")
        search.go()
    return kept_verdict(search)
