"""Points 24 to 36 of the document once more, as plainly as can be, to measure the package by on random books.

It stands on tests.reference, and takes nothing from the package but the fields of books and handlers.
"""

from tests import reference

NEVER = 10 ** 6


def named(state):
    return any(post[0] == "done" for post in state[5])


def right(book, text, state):
    """The right reading for a statement; empty where none matters."""
    age, mark = state[0], state[1]
    read = {"old": age, "young": age, "ripe": mark, "unripe": mark}.get(reference.parts(text)[1], -1)
    return "" if read == -1 else ("old" if read >= book.age else "young")


def rightly(book, state, name, index, own):
    """The index (None if over) and what is there, after a statement with the right reading."""
    text = book[name].statements[index].text
    for reading, then, after in reference.deeds(book, state, name, index, own):
        if reading == right(book, text, state):
            return then, after
    raise AssertionError("the right reading may always be made")


def go(book, state, moves, move):
    moves.append(move)
    return reference.moves(book, state)[move]


def make_round(book, state):
    """The moves of a round, and the state after it."""
    moves = []
    if state[3]:
        state = go(book, state, moves, ("quit",))
    for one in book:
        if one.kind != "sweep":
            continue
        if one.alone:
            state = go(book, state, moves, ("alone", one.name))
        at = 0
        for _ in range(24):
            if at is None:
                break
            text = one.statements[at].text
            then, after = rightly(book, state, one.name, at, "none")
            if one.alone:
                state = go(book, state, moves, ("lone", right(book, text, state)))
            elif after != (state[0], state[1], set(state[5]), "none"):
                state = go(book, state, moves, ("free", one.name, at))
            at = then
        if state[3]:
            state = go(book, state, moves, ("quit",))
    return moves, state


def make_calm(book, state):
    """The moves of the calm, and the state after it."""
    moves = []
    if state[3]:
        state = go(book, state, moves, ("quit",))
    for post in sorted(state[5]):
        if post[1]:
            state = go(book, state, moves, ("fall",) + post + ("all",))
    for _ in range(5):
        while reference.moves(book, state)[("tick",)] != state:
            state = go(book, state, moves, ("tick",))
        more, state = make_round(book, state)
        moves += more
    return moves, state


def helps(book, state, hand, others, own):
    """Whether a hand is of use at a row that stands so, beside other rows."""
    age, mark, at = state[0], state[1], 0
    for _ in range(24):
        if at is None:
            break
        rows = set(others) | ({(own, "", 0, 0)} if own != "none" else set())
        at, (age, mark, _, own) = rightly(book, (age, mark, -1, (), (), tuple(sorted(rows))), hand.name, at, own)
    return at is None and own == "done" and age != -1


def barred(book, state):
    calm = make_calm(book, state)[1]
    if book.names == "own":
        own, others = (calm[5][0][0] if calm[5] else "none"), ()
        if own == "done":
            return False
    else:
        own, others = "none", calm[5]
    return not any(helps(book, calm, one, others, own) for one in book if one.kind == "hand" and one.begins == own)


def faults(book, state):
    """All faults of a state, in their order."""
    file = state[0] != -1
    found = {
        "lost": named(state) and not file,
        "blind": not file and any(book[name].statements[index].text == "read" for name, index, _ in state[4]),
        "stray": file and not named(state) and make_calm(book, state)[1][0] != -1,
        "torn": state[2] != -1 and not file,
        "barred": barred(book, state),
    }
    return tuple(fault for fault in ("lost", "blind", "stray", "torn", "barred") if found[fault])


def levels(book, most=NEVER):
    """The states by the least number of moves to them, level by level, until they are more than most."""
    level = {reference.first(book)}
    known = set(level)
    while level and len(known) <= most:
        yield level
        level = {new for state in level for new in reference.moves(book, state).values()} - known
        known |= level


def judged(book, asks, most):
    """("kept", states), ("broken", number of moves) or ("many", None)."""
    known = set()
    for at, level in enumerate(levels(book)):
        if any(set(asks) & set(faults(book, state)) for state in level):
            return "broken", at
        known |= level
        if len(known) > most:
            return "many", None
    return "kept", known


def unnamed(state):
    return state[0] != -1 and not named(state)


def ways(book, stand):
    """A dict from the ways that go on from a stand to the stands."""
    state, rounded = stand
    found = {("round",): (make_round(book, state)[1], 1)}
    for move, new in reference.moves(book, state).items():
        if move != ("tick",):
            found[move] = (new, rounded)
        elif rounded:
            found[move] = (new, 0)
    return {way: new for way, new in found.items() if unnamed(new[0])}


def ranks(book, states):
    """For each stand the most ticks on ways from it; None for all if they do not end."""
    table, waiting = {}, [(state, 0) for state in states if unnamed(state)]
    while waiting:
        stand = waiting.pop()
        if stand not in table:
            table[stand] = ways(book, stand)
            waiting += table[stand].values()
    rank = dict.fromkeys(table, 0)
    changed = True
    while changed:
        changed = False
        for stand, onward in table.items():
            for way, new in onward.items():
                least = rank[new] + (way == ("tick",))
                if least > len(table):
                    return None
                if rank[stand] < least:
                    rank[stand], changed = least, True
    return rank


def look(state):
    return int(state[0] != -1), int(named(state))


def histories(book, most):
    """All histories with at most so many looks."""
    first = (reference.first(book), ())
    known, waiting = {first}, [first]
    while waiting:
        state, seen = waiting.pop()
        for new in reference.moves(book, state).values():
            then = seen if look(new) == look(state) else seen + (look(new),)
            if len(then) <= most and (new, then) not in known:
                known.add((new, then))
                waiting.append((new, then))
    return {seen for _, seen in known}


class Replay:
    """Events without a clock that happen to one content: what they ask of their moments (31)."""

    def __init__(self, book, times):
        self.book, self.times = book, times
        self.age = self.mark = None
        self.rows, self.runs, self.found = {}, [], set()

    def see(self, condition, reading, row):
        """Whether a condition holds for a run with this row."""
        file, mark = (-1 if age is None else 1 for age in (self.age, self.mark))
        return reference.is_true(condition, file, mark, list(self.rows.values()), self.rows.get(row, "none"), reading)

    def happen(self, at, event):
        if at:
            self.found.add((at, at - 1, 0))
        if event[0] == "begin":
            self.runs.append({"name": event[1], "row": event[2], "at": 0, "since": at, "over": False})
        else:
            run = self.runs[event[1]]
            if event[0] == "fall":
                self.end(run, at - 1)
            else:
                self.step(at, run, event[2])

    def end(self, run, at):
        span = self.times.span_of(run["name"])
        run["over"] = True
        if span is not None:
            self.found.add((run["since"], at, span.ticks))

    def step(self, at, run, reading):
        handler = self.book[run["name"]]
        word, condition = reference.parts(handler.statements[run["at"]].text)
        since = {"old": self.age, "young": self.age, "ripe": self.mark, "unripe": self.mark}.get(condition)
        age, off = self.times.age.ticks, self.times.off.ticks
        if since is None:
            reading = ""
        elif reading == "old":
            self.found.add((at, since, off - age))
        else:
            self.found.add((since, at, age + off - 1))
        held = self.see(condition, reading, run["row"])
        run["at"] += 1
        if word in ("stop", "skip", "again"):
            if held:
                run["at"] = {"stop": len(handler), "skip": run["at"] + 1, "again": 0}[word]
        elif held:
            self.act(at, word, run["row"])
        if run["at"] >= len(handler):
            self.end(run, at)

    def act(self, at, word, row):
        if word == "put" or (word == "touch" and self.age is not None):
            self.age = at
        if word == "strike":
            self.age = None
        if word == "mark" and self.mark is None:
            self.mark = at
        if word == "unmark":
            self.mark = None
        if word == "row":
            self.rows.setdefault(row, "open")
        if word == "done":
            self.rows[row] = "done"
        if word == "drop":
            self.rows.pop(row, None)
        if word == "clear":
            busy = {run["row"] for run in self.runs if not run["over"]}
            self.rows = {one: how for one, how in self.rows.items() if how == "done" or one in busy}


def bounds(book, events, times):
    """The bounds of events that can happen, ascending."""
    replay = Replay(book, times)
    for at, event in enumerate(events):
        replay.happen(at, event)
    for run in replay.runs:
        if not run["over"]:
            replay.end(run, len(events) - 1)
    return sorted(replay.found)


def moments(many, triples):
    """The least moments, the first one 0, or None; found by pushing events off again and again."""
    found = [0] * many
    for _ in range(many + 1):
        before = list(found)
        for i, j, ticks in triples:
            found[i] = max(found[i], found[j] - ticks)
        if found == before:
            return found
    return None
