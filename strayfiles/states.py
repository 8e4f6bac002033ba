"""States of one content: what they are, how their crowds are settled, and which covers which."""

from strayfiles.deeds import Sight, acted, carried_out, readings_of
from strayfiles.order import ascending
from strayfiles.stages import Stages
from strayfiles.times import is_between

IDLE_OPEN = ("open", "", 0, 0)


def sight_of(state, own):
    """What a run sees in a state if its own row stands so."""
    standings = [standing for standing, _, _, _ in state[5]]
    rows = "open" in standings or "done" in standings
    return Sight(state[0], state[1], rows, "done" in standings, own)


def deed(handler, index, state, sight, reading):
    """Where a run stands after its statement, and age, mark, rows and standing of the own row then."""
    at, acts = carried_out(handler, index, sight, reading)
    if not acts:
        return at, (state[0], state[1], state[5], sight.own)
    word = handler.statements[index].word
    age, mark, own = acted(word, sight)
    rows = state[5]
    if word == "clear":
        rows = tuple([post for post in rows if post != IDLE_OPEN])
    return at, (age, mark, rows, own)


def does_nothing(after, state, sight):
    """Whether a deed has left all as it was in the state."""
    return after == (state[0], state[1], state[5], sight.own)


def may_join(book, handler):
    """Whether a run of the handler may be in the crowd."""
    if handler.kind == "sweep":
        return not handler.alone
    return handler.kind == "reader" or book.names == "shared"


def newcomers(book, sight):
    """The stages of runs that may begin in the crowd."""
    names = []
    for handler in book.handlers:
        if handler.kind == "hand":
            begins = handler.begins == "none"
        else:
            begins = handler.kind == "sweep" or sight.named
        if begins and may_join(book, handler):
            names.append(handler.name)
    return [(name, 0, 0) for name in names]


def idle_steps(book, state, sight, stage):
    """The steps from a stage that do nothing: pairs of the reading and the stage to which they lead."""
    name, index, elapsed = stage
    handler = book[name]
    steps = []
    for reading in readings_of(book, handler.statements[index], sight):
        at, after = deed(handler, index, state, sight, reading)
        if at < len(handler) and does_nothing(after, state, sight):
            steps.append((reading, (name, at, elapsed)))
    return steps


def settled(book, state):
    """The settled state; the crowd may be any list or tuple of stages."""
    age, mark, copy, alone, crowd, rows = state
    sight = sight_of(state, "none")
    least = {}
    waiting = list(crowd) + newcomers(book, sight)
    while waiting:
        name, index, elapsed = waiting.pop()
        if elapsed < least.get((name, index), elapsed + 1):
            least[name, index] = elapsed
            steps = idle_steps(book, state, sight, (name, index, elapsed))
            waiting.extend([stage for _, stage in steps])
    stages = [(name, index, least[name, index]) for name, index in least]
    return age, mark, copy, alone, tuple(ascending(stages)), rows


def first_state(book):
    """The state of a content to which nothing has happened."""
    return settled(book, (-1, -1, -1, (), (), ()))


def is_tuple(thing, many):
    """Whether a value is a tuple of so many items."""
    return isinstance(thing, tuple) and len(thing) == many


def is_stage(book, thing):
    """Whether a value is a stage of a handler of the book."""
    if not is_tuple(thing, 3) or thing[0] not in book:
        return False
    handler = book[thing[0]]
    longest = 0 if handler.span is None else handler.span
    return is_between(thing[1], 0, len(handler) - 1) and is_between(thing[2], 0, longest)


def is_lone(book, thing):
    """Whether a value is () or a stage of a sweep that is called alone."""
    if is_tuple(thing, 0):
        return True
    if not is_stage(book, thing):
        return False
    handler = book[thing[0]]
    return handler.kind == "sweep" and handler.alone


def is_crowd(book, thing):
    """Whether a value is a tuple of stages of runs that may be in the crowd."""
    if not isinstance(thing, tuple):
        return False
    return all([is_stage(book, stage) and may_join(book, book[stage[0]]) for stage in thing])


def is_idle(thing):
    """Whether a tuple of three values is what an idle post has behind its standing."""
    name, index, elapsed = thing
    return isinstance(name, str) and name == "" and is_between(index, 0, 0) and is_between(elapsed, 0, 0)


def is_post(book, thing):
    """Whether a value is a post of the book."""
    if not is_tuple(thing, 4) or not isinstance(thing[0], str):
        return False
    if thing[0] not in standings_of_posts(book):
        return False
    stage = thing[1:]
    if is_stage(book, stage):
        return book[stage[0]].kind == "hand"
    return thing[0] != "none" and is_idle(stage)


def standings_of_posts(book):
    """How the row of a post may stand."""
    return ("open", "done") if book.names == "shared" else ("open", "done", "none")


def are_rows(book, thing):
    """Whether a value is an ascending tuple of different posts; with own names of one at most."""
    if not isinstance(thing, tuple) or (book.names == "own" and len(thing) > 1):
        return False
    if not all([is_post(book, post) for post in thing]):
        return False
    return list(thing) == ascending(thing)


def is_state(book, thing):
    """Whether a value is a settled state of the book."""
    if not is_tuple(thing, 6):
        return False
    age, mark, copy, alone, crowd, rows = thing
    if not is_between(age, -1, book.top) or not is_between(mark, -1, book.top):
        return False
    if not is_between(copy, -1, -1 if book.keep is None else book.keep):
        return False
    if not is_lone(book, alone) or not is_crowd(book, crowd) or not are_rows(book, rows):
        return False
    return settled(book, thing)[4] == crowd


def is_as_fresh(post, other):
    """Whether a post is at the place of another one, and its elapsed is not greater."""
    return post[:3] == other[:3] and post[3] <= other[3]


def has_as_fresh(rows, post):
    """Whether one of these posts is as fresh as this one or fresher."""
    return any([is_as_fresh(one, post) for one in rows])


def is_as_fresh_as_one(post, rows):
    """Whether this post is as fresh as one of these or fresher."""
    return any([is_as_fresh(post, one) for one in rows])


def covers(state, other):
    """Whether what may go on in the other state may go on in this one, too."""
    if state[:4] != other[:4] or not Stages(other[4]).within(Stages(state[4])):
        return False
    rows, others = state[5], other[5]
    if not all([has_as_fresh(rows, post) for post in others]):
        return False
    return all([is_as_fresh_as_one(post, others) for post in rows])
