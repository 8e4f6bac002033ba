"""Looking at certificates: whether they show what they say, without judging anew."""

from strayfiles.calm import FAULTS, Finder, are_asks
from strayfiles.errors import BadAsks, BadWalk
from strayfiles.moves import steps_from, walked
from strayfiles.states import first_state, is_state, is_tuple


def are_states(book, thing):
    """Whether any value is a tuple of different settled states of the book."""
    if not isinstance(thing, tuple) or not all([is_state(book, state) for state in thing]):
        return False
    return len({state: True for state in thing}) == len(thing)


def is_closed(book, thing):
    """Whether any value is a tuple of different states with the first one and all that moves lead to."""
    if not are_states(book, thing):
        return False
    table = {state: True for state in thing}
    if first_state(book) not in table:
        return False
    for state in thing:
        if not all([new in table for _, new in steps_from(book, state)]):
            return False
    return True


def states_of_walk(book, thing):
    """The states of a tuple of moves that can be walked; none if any value is no such tuple."""
    if not isinstance(thing, tuple):
        return []
    try:
        return walked(book, thing)
    except BadWalk:
        return []


def is_certificate(book, thing, *, asks=("lost", "blind", "stray")):
    """Whether any value is a certificate that the book is kept or broken."""
    if not are_asks(asks, FAULTS):
        raise BadAsks(asks)
    if not is_tuple(thing, 2):
        return False
    finder = Finder(book)
    if thing[0] == "kept":
        return is_closed(book, thing[1]) and all([finder.is_free(state, asks) for state in thing[1]])
    if thing[0] != "broken":
        return False
    states = states_of_walk(book, thing[1])
    return bool(states) and not finder.is_free(states[-1], asks)
