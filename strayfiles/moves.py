"""Moves: what can happen next to a content in a state, and the state that comes of it."""

from strayfiles.deeds import readings_of
from strayfiles.errors import BadMove, BadWalk, TooMany
from strayfiles.order import ascending
from strayfiles.states import deed, does_nothing, first_state, may_join, settled, sight_of
from strayfiles.times import is_whole


def idle_posts(standing):
    """The idle post of a row that stands so; none if the row is not there."""
    return [] if standing == "none" else [(standing, "", 0, 0)]


def busy_posts(state):
    """The posts that are not idle."""
    return [post for post in state[5] if post[1] != ""]


def hows(book):
    """How many rows may go along in a move, ascending."""
    return ("all",) if book.names == "own" else ("all", "some")


def alone_moves(book, state):
    """The beginnings of sweeps that are called alone."""
    if state[3] != ():
        return []
    names = [handler.name for handler in book.handlers if handler.kind == "sweep" and handler.alone]
    return [("alone", name) for name in ascending(names)]


def begin_standings(book, state):
    """How the rows stand at which hands may begin by a move, ascending."""
    standings = [standing for standing in ("done", "open") if (standing, "", 0, 0) in state[5]]
    if book.names == "own" and state[5] == ():
        standings.append("none")
    return ascending(standings)


def begin_moves(book, state):
    """The beginnings of hands at rows."""
    moves = []
    for standing in begin_standings(book, state):
        names = [handler.name for handler in book.handlers
                 if handler.kind == "hand" and handler.begins == standing]
        moves.extend([("begin", standing, name, how) for name in ascending(names) for how in hows(book)])
    return moves


def copy_moves(book, state):
    """The taking of a copy, if it would hold this content."""
    if book.keep is None or not sight_of(state, "none").named:
        return []
    return [("copy",)]


def fall_moves(book, state):
    """The falls of runs at rows."""
    return [("fall", *post, how) for post in busy_posts(state) for how in hows(book)]


def readings_at(book, state, name, index, own):
    """The readings with which the statement there may be carried out, ascending."""
    return readings_of(book, book[name].statements[index], sight_of(state, own))


def busy_readings(book, state, name, index):
    """Those with which a run of the crowd does something by its statement."""
    handler = book[name]
    sight = sight_of(state, "none")
    busy = []
    for reading in readings_of(book, handler.statements[index], sight):
        _, after = deed(handler, index, state, sight, reading)
        if not does_nothing(after, state, sight):
            busy.append(reading)
    return busy


def free_moves(book, state):
    """The steps of the crowd by which something is done."""
    return [("free", name, index) for name, index, _ in state[4] if busy_readings(book, state, name, index)]


def lone_moves(book, state):
    """The steps of the sweep that is called alone."""
    if state[3] == ():
        return []
    name, index, _ = state[3]
    return [("lone", reading) for reading in readings_at(book, state, name, index, "none")]


def quit_moves(state):
    """The end of the sweep that is called alone."""
    return [] if state[3] == () else [("quit",)]


def step_moves(book, state):
    """The steps of runs at rows."""
    moves = []
    for standing, name, index, elapsed in busy_posts(state):
        for reading in readings_at(book, state, name, index, standing):
            moves.extend([("step", standing, name, index, elapsed, reading, how) for how in hows(book)])
    return moves


def all_moves(book, state):
    """All moves of a state, ascending, as their kinds are."""
    moves = alone_moves(book, state) + begin_moves(book, state) + copy_moves(book, state)
    moves = moves + fall_moves(book, state) + free_moves(book, state) + lone_moves(book, state)
    return moves + quit_moves(state) + step_moves(book, state) + [("tick",)]


def moves_of(book, state):
    """All moves of a state, ascending."""
    yield from all_moves(book, state)


def aged(book, stage):
    """The stage a tick later, in a list; none if the run is over by its span, or if there is none."""
    if stage == ():
        return []
    name, index, elapsed = stage
    span = book[name].span
    if span is None:
        return [stage]
    return [(name, index, elapsed + 1)] if elapsed < span else []


def aged_posts(book, post):
    """The post a tick later, in a list; none if no row is left."""
    standing, *stage = post
    if post[1] == "":
        return [post]
    older = aged(book, tuple(stage))
    return [(standing,) + older[0]] if older else idle_posts(standing)


def after_tick(book, state, move):
    """All is one tick older."""
    age, mark, copy, alone, crowd, rows = state
    if age >= 0:
        age = min(int(age) + 1, book.top)
    if mark >= 0:
        mark = min(int(mark) + 1, book.top)
    if copy >= 0:
        copy = copy - 1
    alone = tuple([part for stage in aged(book, alone) for part in stage])
    crowd = [older for stage in crowd for older in aged(book, stage)]
    posts = [older for post in rows for older in aged_posts(book, post)]
    return age, mark, copy, alone, crowd, tuple(ascending(posts))


def after_copy(book, state, move):
    """There is a new copy."""
    age, mark, _, alone, crowd, rows = state
    return age, mark, book.keep, alone, crowd, rows


def with_alone(state, alone):
    """The state in which the run called alone is this one."""
    age, mark, copy, _, crowd, rows = state
    return age, mark, copy, alone, crowd, rows


def after_alone(book, state, move):
    """A sweep that is called alone begins."""
    return with_alone(state, (move[1], 0, 0))


def after_quit(book, state, move):
    """The sweep that is called alone falls."""
    return with_alone(state, ())


def after_lone(book, state, move):
    """The sweep that is called alone carries out its statement."""
    name, index, elapsed = state[3]
    handler = book[name]
    at, after = deed(handler, index, state, sight_of(state, "none"), move[1])
    alone = () if at == len(handler) else (name, at, elapsed)
    age, mark, rows, _ = after
    return age, mark, state[2], alone, state[4], rows


def with_posts(state, gone, come):
    """The state in which some posts are gone, and others come."""
    age, mark, copy, alone, crowd, rows = state
    left = [post for post in rows if post not in gone]
    return age, mark, copy, alone, crowd, tuple(ascending(left + come))


def after_fall(book, state, move):
    """Runs at rows fall."""
    post = move[1:5]
    return with_posts(state, [post] if move[5] == "all" else [], idle_posts(post[0]))


def after_begin(book, state, move):
    """Runs begin at rows."""
    _, standing, name, how = move
    return with_posts(state, idle_posts(standing) if how == "all" else [], [(standing, name, 0, 0)])


def arrivals(book, stage, own):
    """The stages and the posts that come where a run then stands, or is over, its row standing so."""
    handler = book[stage[0]]
    if stage[1] == len(handler):
        return [], idle_posts(own)
    if own == "none" and may_join(book, handler):
        return [stage], []
    return [], [(own, *stage)]


def stepped(book, state, stage, own, reading, gone):
    """The state after a run has carried out its statement, with the posts gone that went along."""
    name, index, elapsed = stage
    at, after = deed(book[name], index, state, sight_of(state, own), reading)
    age, mark, rows, own_then = after
    stages, posts = arrivals(book, (name, at, elapsed), own_then)
    changed = (age, mark, state[2], state[3], list(state[4]) + stages, rows)
    return with_posts(changed, gone, posts)


def after_step(book, state, move):
    """Runs at rows carry out their statement."""
    post, reading, how = move[1:5], move[5], move[6]
    return stepped(book, state, post[1:], post[0], reading, [post] if how == "all" else [])


def after_free(book, state, move):
    """A run of the crowd carries out a statement that does something."""
    _, name, index = move
    stages = [stage for stage in state[4] if stage[0] == name and stage[1] == index]
    reading = busy_readings(book, state, name, index)[0]
    return stepped(book, state, stages[0], "none", reading, [])


AFTER = {
    "tick": after_tick,
    "copy": after_copy,
    "alone": after_alone,
    "lone": after_lone,
    "quit": after_quit,
    "fall": after_fall,
    "begin": after_begin,
    "step": after_step,
    "free": after_free,
}


def made(book, state, move):
    """The settled state that a move makes of a state."""
    action = AFTER[move[0]]
    return settled(book, action(book, state, move))


def is_flat(thing):
    """Whether any value is a tuple of strings and integers, in which True would be taken for 1."""
    return isinstance(thing, tuple) and all([isinstance(part, str) or is_whole(part) for part in thing])


def is_move(book, state, thing):
    """Whether any value is a move of the state."""
    return is_flat(thing) and thing in all_moves(book, state)


def moved(book, state, move):
    """The state that a move makes of a state."""
    if not is_move(book, state, move):
        raise BadMove(move)
    return made(book, state, move)


def walked(book, moves):
    """The states of a walk from the first state, which comes first."""
    states = [first_state(book)]
    for at, move in enumerate(moves):
        if not is_move(book, states[-1], move):
            raise BadWalk(at)
        states.append(made(book, states[-1], move))
    return states


def steps_from(book, state):
    """The moves of a state, ascending, each with the state that it makes."""
    return [(move, made(book, state, move)) for move in all_moves(book, state)]


class Search:
    """The states that moves reach, found one level after another; the next level is one move further off."""

    def __init__(self, book):
        first = first_state(book)
        self.book = book
        self.level = [first]
        # For each state that was found the one before it and the move; () for the first state.
        self.came = {first: ()}
        # The steps from each state before this level.
        self.steps = {}

    def go(self):
        """The next level is found; it is empty if there are no more states."""
        found = []
        for state in self.level:
            self.steps[state] = steps_from(self.book, state)
            for move, new in self.steps[state]:
                if new not in self.came:
                    self.came[new] = (state, move)
                    found.append(new)
        self.level = found

    def states(self):
        """The states that were found, ascending."""
        return ascending(list(self.came))


def moves_to(came, state):
    """The moves by which a state was first come to."""
    moves = []
    while came[state] != ():
        state, move = came[state]
        moves.append(move)
    return moves[::-1]


def explored(book, most):
    """A search that has found all states that moves reach."""
    search = Search(book)
    while search.level:
        if len(search.came) > most:
            raise TooMany("states")
        search.go()
    return search


def reached(book, *, most=100):
    """All states that moves reach, ascending."""
    search = explored(book, most)
    return search.states()
