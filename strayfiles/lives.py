"""Lives: how many ticks a file that no done row names can last although sweeps go round."""

from strayfiles.calm import state_after_round
from strayfiles.looker import is_closed, states_of_walk
from strayfiles.moves import explored, is_flat, moves_to, steps_from
from strayfiles.order import ascending
from strayfiles.states import is_state, is_tuple, sight_of
from strayfiles.times import is_between, is_whole

TICK = ("tick",)
ROUND = ("round",)


def is_unnamed(state):
    """Whether there is a file that no done row names."""
    return state[0] >= 0 and not sight_of(state, "none").named


def ways_on(book, stand, steps):
    """The ways that go on from a stand, ascending, with the stands; the steps are those from its state."""
    state, rounded = stand
    pairs = [(ROUND, (state_after_round(book, state), 1))]
    for move, new in steps:
        if move != TICK:
            pairs.append((move, (new, rounded)))
        elif rounded == 1:
            pairs.append((move, (new, 0)))
    return ascending([(way, after) for way, after in pairs if is_unnamed(after[0])])


def ways_from(book, stand):
    """The ways that go on from a stand, ascending, with the stands."""
    return ways_on(book, stand, steps_from(book, stand[0]))


def ways(book, stand):
    """The ways that go on from a stand, ascending, with the stands."""
    yield from ways_from(book, stand)


class Life:
    """How long files last that nobody names; None if there is no bound."""

    def __init__(self, certificate, ticks):
        self.certificate = certificate
        self.ticks = ticks


class Stands:
    """The stands to which ways lead from unnamed states that can be reached, and these ways."""

    def __init__(self, book, search):
        # For each stand the pairs of a way and a stand.
        self.onward = {}
        # For each stand those pairs of a way and a stand by which one comes to it.
        self.backward = {}
        waiting = [(state, 0) for state in search.states() if is_unnamed(state)]
        while waiting:
            stand = waiting.pop()
            if stand not in self.onward:
                self.onward[stand] = ways_on(book, stand, search.steps[stand[0]])
                waiting.extend([new for _, new in self.onward[stand]])
        for stand in self.onward:
            for way, new in self.onward[stand]:
                self.backward.setdefault(new, []).append((way, stand))

    def to_tick(self, goals):
        """The stands from which one comes to a tick that leads to a goal, each with the next way and stand."""
        nearer = {}
        for goal in goals:
            for way, stand in self.backward.get(goal, []):
                if way == TICK:
                    nearer.setdefault(stand, (way, goal))
        waiting = list(nearer)
        while waiting:
            stand = waiting.pop()
            for way, before in self.backward.get(stand, []):
                if way != TICK and before not in nearer:
                    nearer[before] = (way, stand)
                    waiting.append(before)
        return nearer


def ranked(stands):
    """The rank of each stand, and for those from which ticks never end the next way and stand."""
    ranks = {stand: 0 for stand in stands.onward}
    goals = list(ranks)
    while goals:
        nearer = stands.to_tick(goals)
        if len(nearer) == len(goals):
            return ranks, nearer
        for stand in nearer:
            ranks[stand] += 1
        goals = list(nearer)
    return ranks, {}


def loop(nearer):
    """A stand and the ways that lead from it back to it, the first one a tick."""
    stand = list(nearer)[0]
    been = {}
    while stand not in been:
        been[stand] = True
        stand = nearer[stand][1]
    # It is on the loop now; the next tick begins where a round was made.
    while nearer[stand][0] != TICK:
        stand = nearer[stand][1]
    way, at = nearer[stand]
    found = [way]
    while at != stand:
        way, at = nearer[at]
        found.append(way)
    return stand, found


def longest(book, *, most=100):
    """The life of a book."""
    search = explored(book, most)
    stands = Stands(book, search)
    ranks, nearer = ranked(stands)
    if nearer:
        stand, found = loop(nearer)
        moves = moves_to(search.came, stand[0])
        return Life(("endless", tuple(moves), tuple(found)), None)
    rows = ascending([(state, rounded, ranks[state, rounded]) for state, rounded in ranks])
    ticks = ascending([0] + list(ranks.values()))
    return Life(("ends", tuple(search.states()), tuple(rows)), ticks[-1])


def is_row(book, thing):
    """Whether any value is a stand with a rank."""
    if not is_tuple(thing, 3) or not is_state(book, thing[0]) or not is_unnamed(thing[0]):
        return False
    return is_between(thing[1], 0, 1) and is_whole(thing[2]) and thing[2] >= 0


def falls(book, ranks, stand):
    """Whether no way from a stand leads to a greater rank or to one without, and ticks lead to smaller ones."""
    for way, new in ways_from(book, stand):
        if new not in ranks or ranks[new] > ranks[stand]:
            return False
        if way == TICK and ranks[new] == ranks[stand]:
            return False
    return True


def is_end(book, states, rows):
    """Whether any values are the states and the rows of a certificate that lives end."""
    if not is_closed(book, states) or not isinstance(rows, tuple) or not all([is_row(book, row) for row in rows]):
        return False
    ranks = {(state, rounded): rank for state, rounded, rank in rows}
    if len(ranks) < len(rows):
        return False
    if not all([(state, 0) in ranks for state in states if is_unnamed(state)]):
        return False
    return all([falls(book, ranks, stand) for stand in ranks])


def stand_after(book, stand, way):
    """The stand to which any value leads as a way from a stand, in a list; none if it is no way."""
    if not is_flat(way):
        return []
    return [new for known, new in ways_from(book, stand) if known == way]


def is_loop(book, moves, found):
    """Whether any values are the moves and the ways of a certificate that a life does not end."""
    states = states_of_walk(book, moves)
    if not states or not is_unnamed(states[-1]) or not isinstance(found, tuple) or TICK not in found:
        return False
    start = (states[-1], 1)
    stand = start
    for way in found:
        after = stand_after(book, stand, way)
        if not after:
            return False
        stand = after[0]
    return stand == start


def is_life(book, thing):
    """Whether any value is a certificate of the life of the book."""
    if not is_tuple(thing, 3):
        return False
    if thing[0] == "ends":
        return is_end(book, thing[1], thing[2])
    return thing[0] == "endless" and is_loop(book, thing[1], thing[2])
