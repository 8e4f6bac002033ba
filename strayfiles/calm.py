"""Rounds of sweeps, the calm that comes when nobody else moves, and the faults of states."""

from strayfiles.deeds import rightly
from strayfiles.handlers import MOST_STEPS
from strayfiles.moves import busy_posts, idle_posts, made
from strayfiles.states import deed, does_nothing, sight_of

FAULTS = ("lost", "blind", "stray", "torn", "barred")

# How often time passes in a calm, with a round after it.
MOST_ROUNDS = 5

TICK = ("tick",)
QUIT = ("quit",)


class Path:
    """Moves that are made one after another, and the state to which they have led."""

    def __init__(self, book, state):
        self.book = book
        self.state = state
        self.moves = []

    def go(self, move):
        """This move is made."""
        self.state = made(self.book, self.state, move)
        self.moves.append(move)

    def goes_by_tick(self):
        """Whether a tick changes the state; it is made then."""
        later = made(self.book, self.state, TICK)
        if later == self.state:
            return False
        self.state = later
        self.moves.append(TICK)
        return True


def quit_alone(path):
    """The sweep that is called alone falls, if one is there."""
    if path.state[3] != ():
        path.go(QUIT)


def sweep_alone(path, handler):
    """A run of a sweep that is called alone begins and is carried on."""
    path.go(("alone", handler.name))
    for _ in range(MOST_STEPS):
        if path.state[3] == ():
            return
        name, index, _ = path.state[3]
        statement = handler.statements[index]
        path.go(("lone", rightly(path.book, statement, sight_of(path.state, "none"))))
    quit_alone(path)


def sweep_free(path, handler):
    """A run of a sweep that is not called alone begins and is carried on; only its deeds are moves."""
    index = 0
    for _ in range(MOST_STEPS):
        if index == len(handler):
            return
        sight = sight_of(path.state, "none")
        reading = rightly(path.book, handler.statements[index], sight)
        at, after = deed(handler, index, path.state, sight, reading)
        if not does_nothing(after, path.state, sight):
            path.go(("free", handler.name, index))
        index = at


def go_round(path):
    """A round is made."""
    quit_alone(path)
    for handler in path.book.handlers:
        if handler.kind == "sweep" and handler.alone:
            sweep_alone(path, handler)
        elif handler.kind == "sweep":
            sweep_free(path, handler)


def let_fall(path):
    """The run that is called alone and those at rows fall."""
    quit_alone(path)
    posts = busy_posts(path.state)
    for post in posts:
        path.go(("fall", *post, "all"))


def pass_time(path):
    """Time passes as long as it changes something, then a round is made."""
    going = True
    while going:
        going = path.goes_by_tick()
    go_round(path)


def round_moves(book, state):
    """The moves of a round."""
    path = Path(book, state)
    go_round(path)
    return path.moves


def state_after_round(book, state):
    """The state to which a round leads."""
    path = Path(book, state)
    go_round(path)
    return path.state


def calm_moves(book, state):
    """The moves of the calm."""
    path = Path(book, state)
    let_fall(path)
    for _ in range(MOST_ROUNDS):
        pass_time(path)
    return path.moves


def is_of_use(book, hand, calm, others, own):
    """Whether a run of a hand brings a done row and a file, at a row that stands so beside the others."""
    age, mark = calm[0], calm[1]
    index = 0
    for _ in range(MOST_STEPS):
        if index == len(hand):
            break
        state = (age, mark, calm[2], (), (), others + tuple(idle_posts(own)))
        sight = sight_of(state, own)
        reading = rightly(book, hand.statements[index], sight)
        index, after = deed(hand, index, state, sight, reading)
        age, mark, _, own = after
    return index == len(hand) and own == "done" and age >= 0


def is_barred(book, calm):
    """Whether no hand can be of use in a calm."""
    own = "none"
    others = calm[5]
    if book.names == "own":
        # The one row is that at which the hands begin.
        standings = [standing for standing, _, _, _ in calm[5]]
        own = standings[0] if standings else "none"
        others = ()
    if own == "done":
        return False
    hands = [handler for handler in book.handlers if handler.kind == "hand" and handler.begins == own]
    return not any([is_of_use(book, hand, calm, others, own) for hand in hands])


class Finder:
    """Finds the faults of the states of one book; it keeps what comes of states in their calms."""

    def __init__(self, book):
        self.book = book
        self._later = {}

    def calm(self, state):
        """The state to which the moves of the calm lead."""
        path = Path(self.book, state)
        let_fall(path)
        calm = path.state
        for _ in range(MOST_ROUNDS):
            calm = self._after_time(calm)
        return calm

    def _after_time(self, state):
        """The state after time has passed and a round was made."""
        if state not in self._later:
            path = Path(self.book, state)
            pass_time(path)
            self._later[state] = path.state
        return self._later[state]

    def has(self, fault, state):
        """Whether a state has this fault."""
        age, _, copy, _, crowd, _ = state
        named = sight_of(state, "none").named
        if fault == "lost":
            return age < 0 and named
        if fault == "blind":
            return age < 0 and self._reads(crowd)
        if fault == "stray":
            return age >= 0 and not named and self.calm(state)[0] >= 0
        if fault == "torn":
            return age < 0 and copy >= 0
        return is_barred(self.book, self.calm(state))

    def _reads(self, crowd):
        """Whether a reader of the crowd is about to read."""
        words = [self.book[name].statements[index].word for name, index, _ in crowd]
        return "read" in words

    def faults_of(self, state, asks):
        """Those of the faults that the state has, in their order."""
        return tuple([fault for fault in asks if self.has(fault, state)])

    def is_free(self, state, asks):
        """Whether a state has none of these faults."""
        for fault in asks:
            if self.has(fault, state):
                return False
        return True


def faults(book, state):
    """All faults of a state."""
    finder = Finder(book)
    return finder.faults_of(state, FAULTS)


def are_asks(thing, known):
    """Whether any value is a list or tuple of one or more different ones of the known faults."""
    if not isinstance(thing, (list, tuple)) or len(thing) == 0:
        return False
    return all([ask in known for ask in thing]) and len(set(thing)) == len(thing)
