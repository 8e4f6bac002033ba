"""Comparing books by what a stranger sees who looks at both houses from outside."""

from strayfiles.errors import TooMany
from strayfiles.moves import explored, moves_to, walked
from strayfiles.order import ascending
from strayfiles.states import first_state, is_state, is_tuple, sight_of
from strayfiles.times import is_between

LOOKS = ((0, 0), (0, 1), (1, 0), (1, 1))
FIRST_LOOK = (0, 0)


def look_of(state):
    """Whether there is a file, and whether a done row names it, as 1 or 0."""
    file = 1 if state[0] >= 0 else 0
    name = 1 if sight_of(state, "none").named else 0
    return file, name


def history(book, moves):
    """The looks of a walk, each once as long as it does not change, without that of the first state."""
    looks = [look_of(state) for state in walked(book, moves)]
    return tuple([look for before, look in zip(looks, looks[1:]) if look != before])


def goals_of(steps):
    """The different states to which steps lead."""
    return list({new: True for _, new in steps})


class Watch:
    """What a stranger may know of a book: in which states it can be after a history."""

    def __init__(self, book, most):
        search = explored(book, most)
        self.book = book
        # For each state that moves reach those to which one move leads, and its look.
        self._onward = {state: goals_of(search.steps[state]) for state in search.steps}
        self._looks = {state: look_of(state) for state in self._onward}
        # What was found already of the states in which it can be next.
        self._found = {}

    def knows(self, thing):
        """Whether any value is a state that moves reach."""
        return is_state(self.book, thing) and thing in self._onward

    def are_known(self, thing):
        """Whether any value is an ascending tuple of different states with one look, and is not empty."""
        if not isinstance(thing, tuple) or thing == () or not all([self.knows(state) for state in thing]):
            return False
        if list(thing) != ascending(thing):
            return False
        return all([look_of(state) == look_of(thing[0]) for state in thing])

    def _all_from(self, states):
        """All that moves reach from these states of one look through states with it, ascending."""
        found = {}
        waiting = list(states)
        while waiting:
            state = waiting.pop()
            if state not in found:
                found[state] = True
                look = self._looks[state]
                waiting.extend([new for new in self._onward[state] if self._looks[new] == look])
        return tuple(ascending(list(found)))

    def beginning(self):
        """The states in which a book can be as long as nothing is seen."""
        return self._all_from([first_state(self.book)])

    def after(self, states, look):
        """The states in which it can be when this other look is seen next."""
        if (states, look) not in self._found:
            seen = [new for state in states for new in self._onward[state] if self._looks[new] == look]
            self._found[states, look] = self._all_from(seen)
        return self._found[states, look]

    def has(self, thing):
        """Whether any value is a history."""
        if not isinstance(thing, tuple):
            return False
        states, seen = self.beginning(), FIRST_LOOK
        for look in thing:
            if not is_look(look) or look == seen:
                return False
            states, seen = self.after(states, look), look
            if not states:
                return False
        return True


def is_look(thing):
    """Whether any value is a look."""
    return is_tuple(thing, 2) and is_between(thing[0], 0, 1) and is_between(thing[1], 0, 1)


def has_history(book, thing, *, most=100):
    """Whether any value is a history of the book."""
    watch = Watch(book, most)
    return watch.has(thing)


class Comparison:
    """Whether two books are alike, or which of them has a history that the other has not."""

    def __init__(self, certificate):
        self.certificate = certificate

    def __bool__(self):
        return bool(self.certificate[0] == "alike")

    @property
    def parting(self):
        """The history that one book alone has; () if they are alike."""
        return () if self.certificate[0] == "alike" else self.certificate[1]


def next_pairs(one, other, pair):
    """The looks that can be seen next, ascending, each with the pair of states of either book."""
    some, others = pair
    found = []
    for look in LOOKS:
        if look == look_of(some[0]):
            continue
        after = (one.after(some, look), other.after(others, look))
        if after != ((), ()):
            found.append((look, after))
    return found


class Meeting:
    """Two books followed side by side, one look after another."""

    def __init__(self, one, other):
        self.one = one
        self.other = other
        first = (one.beginning(), other.beginning())
        # The pair before it and the look; () for the first pair.
        self.came = {first: ()}
        self.level = [first]
        # The history that one alone has, and which of them it is, as soon as one is found.
        self.parted = ()

    def go(self):
        """One look more is seen."""
        found = []
        for pair in self.level:
            for look, after in next_pairs(self.one, self.other, pair):
                if () in after:
                    self.parted = (tuple(moves_to(self.came, pair) + [look]), 1 if after[0] == () else 0)
                    return
                if after not in self.came:
                    self.came[after] = (pair, look)
                    found.append(after)
        self.level = found


def compare(one, other, *, most=100):
    """Whether two books are alike, with a certificate."""
    meeting = Meeting(Watch(one, most), Watch(other, most))
    while meeting.level:
        if len(meeting.came) > most:
            raise TooMany("pairs")
        meeting.go()
        if meeting.parted:
            seen, which = meeting.parted
            return Comparison(("parted", seen, which))
    return Comparison(("alike", tuple(ascending(list(meeting.came)))))


def is_pair(one, other, thing):
    """Whether any value is a pair of known states of two books, all with one look."""
    if not is_tuple(thing, 2) or not one.are_known(thing[0]) or not other.are_known(thing[1]):
        return False
    return look_of(thing[0][0]) == look_of(thing[1][0])


def is_alike(one, other, thing):
    """Whether any value is a closed table of pairs."""
    if not isinstance(thing, tuple) or not all([is_pair(one, other, pair) for pair in thing]):
        return False
    table = {pair: True for pair in thing}
    if len(table) < len(thing) or (one.beginning(), other.beginning()) not in table:
        return False
    for pair in thing:
        if not all([after in table for _, after in next_pairs(one, other, pair)]):
            return False
    return True


def is_comparison(one, other, thing, *, most=100):
    """Whether any value is a certificate that two books are alike or parted."""
    first, second = Watch(one, most), Watch(other, most)
    if is_tuple(thing, 2) and thing[0] == "alike":
        return is_alike(first, second, thing[1])
    if not is_tuple(thing, 3) or thing[0] != "parted" or not is_between(thing[2], 0, 1):
        return False
    had = (first.has(thing[1]), second.has(thing[1]))
    return had == ((True, False) if thing[2] == 0 else (False, True))
