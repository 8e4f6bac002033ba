"""Worlds: the engine in which runs of handlers work at files and rows."""

from strayfiles.deeds import READINGS, Sight, acted, age_to_read, carried_out, may_read, right_reading
from strayfiles.errors import BadEvent, BadPlace, Busy, NoRun, NotRead, NotSo, Over, Unnamed
from strayfiles.houses import FileHouse, RowHouse, without
from strayfiles.order import ascending
from strayfiles.states import may_join, settled
from strayfiles.times import is_between, is_whole

MOST_ROW = 1000000000

TICK = ("tick",)
COPY = ("copy",)


def is_event(thing):
    """Whether any value has the form of an event."""
    if not isinstance(thing, tuple) or len(thing) == 0 or not isinstance(thing[0], str):
        return False
    if len(thing) == 1:
        return thing in (TICK, COPY)
    if len(thing) == 2:
        return thing[0] == "fall" and is_whole(thing[1])
    if len(thing) != 3:
        return False
    if thing[0] == "step":
        return is_whole(thing[1]) and isinstance(thing[2], str) and thing[2] in READINGS
    return thing[0] == "begin" and isinstance(thing[1], str) and is_whole(thing[2])


class Run:
    """A run of a handler that is not over."""

    def __init__(self, name, content, row, index, elapsed):
        self.name = name
        self.content = content
        # Its number, whether the row is there or not; -1 for sweeps and readers.
        self.row = row
        self.index = index
        self.elapsed = elapsed


class World:
    """Contents with their files and rows, and the runs that work at them."""

    def __init__(self, book, *, clock=True):
        self.book = book.with_age(book.age)
        self.files = FileHouse()
        self.rows = RowHouse()
        self._clock = clock
        self._marks = {}
        self._copies = {}
        # The runs that are not over, by their numbers.
        self._runs = {}
        self._begun = 0
        self._now = 0

    @property
    def now(self):
        """The number of ticks so far."""
        return self._now

    def begin(self, name, content, row=0):
        """A new run begins; its number."""
        handler = self.book[name]
        place = -1
        if handler.kind == "hand":
            self._check_hand(handler, content, row)
            place = row
        elif handler.kind == "reader":
            if not self.rows.is_named(content):
                raise Unnamed(content)
        # A sweep: only one that is called alone can be in the way of another.
        elif handler.alone:
            self._check_alone(content)
        run = self._begun
        self._runs[run] = Run(name, content, place, 0, 0)
        self._begun = run + 1
        return run

    def _check_hand(self, handler, content, row):
        """A hand must be able to begin at this row."""
        if self.book.names == "own" and row != 0:
            raise BadPlace(row)
        for run in self.running(content):
            if self._runs[run].row == row:
                raise Busy(run)
        standing = self._standing(content, row)
        if standing != handler.begins:
            raise NotSo(standing)

    def _check_alone(self, content):
        """No sweep that is called alone may stand at this content."""
        for run in self.running(content):
            if self._is_alone(self._runs[run].name):
                raise Busy(run)

    def _is_alone(self, name):
        """Whether the handler of this name is a sweep that is called alone."""
        handler = self.book[name]
        return handler.kind == "sweep" and handler.alone

    def _standing(self, content, row):
        """How a row stands: open, done or none."""
        return self.rows[content, row] if (content, row) in self.rows else "none"

    def _age(self, content):
        """The age of the file, or -1."""
        return self.files[content] if content in self.files else -1

    def _going(self, number):
        """The run of this number, which must not be over."""
        if not is_between(number, 0, self._begun - 1):
            raise NoRun(number)
        if number not in self._runs:
            raise Over(number)
        return self._runs[number]

    def step(self, run, reading=""):
        """A run is carried on by one statement; the index of the statement."""
        going = self._going(run)
        handler = self.book[going.name]
        index = going.index
        statement = handler.statements[index]
        sight = self.sight(run)
        at, acts = carried_out(handler, index, sight, self._made_reading(statement, sight, reading))
        if acts:
            self._act(going, statement.word, sight)
        going.index = at
        if at == len(handler):
            del self._runs[run]
        return index

    def sight(self, run):
        """What a run that is not over sees of its content."""
        going = self._going(run)
        mark = self._marks.get(going.content, -1)
        rows = len(self.rows.standings(going.content)) > 0
        named = self.rows.is_named(going.content)
        return Sight(self._age(going.content), mark, rows, named, self._standing(going.content, going.row))

    def _made_reading(self, statement, sight, reading):
        """The reading that is made; the empty one where none matters."""
        age = age_to_read(statement, sight)
        if age < 0:
            return ""
        if self._clock and reading == "":
            return right_reading(self.book, age)
        may_be = may_read(self.book, age) if self._clock else ["old", "young"]
        if reading not in may_be:
            raise NotRead(reading)
        return reading

    def _act(self, run, word, sight):
        """A run does what its act says."""
        if word == "clear":
            self._clear(run.content)
        age, mark, own = acted(word, sight)
        if age < 0:
            self.files.take(run.content)
        else:
            self.files[run.content] = age
        if mark < 0:
            self._marks = without(self._marks, run.content)
        else:
            self._marks[run.content] = mark
        if own == "none":
            self.rows.take(run.content, run.row)
        else:
            self.rows[run.content, run.row] = own

    def _clear(self, content):
        """The open rows at which no run of a hand stands are taken away."""
        busy = [self._runs[run].row for run in self.running(content)]
        standings = self.rows.standings(content)
        for row in standings:
            if standings[row] == "open" and row not in busy:
                self.rows.take(content, row)

    def fall(self, run):
        """A run is over, wherever it stands."""
        self._going(run)
        del self._runs[run]

    def tick(self):
        """All is one tick older."""
        self.files.tick()
        self._marks = {content: self._marks[content] + 1 for content in self._marks}
        self._copies = {content: left - 1 for content, left in self._copies.items() if left > 0}
        for number in list(self._runs):
            run = self._runs[number]
            run.elapsed += 1
            span = self.book[run.name].span
            if span is not None and run.elapsed > span:
                del self._runs[number]
        self._now += 1

    def copy(self):
        """A copy of the row house is taken, if the book keeps any."""
        if self.book.keep is None:
            return
        for content, row in self.rows:
            if self.rows[content, row] == "done":
                self._copies[content] = self.book.keep

    def running(self, content):
        """The runs at a content that are not over, ascending."""
        return [number for number, run in self._runs.items() if run.content == content]

    def stands(self, run):
        """Name, content, row, index and elapsed ticks of a run that is not over."""
        going = self._going(run)
        return going.name, going.content, going.row, going.index, going.elapsed

    def mark_of(self, content):
        """The age of the mark, or None."""
        return self._marks.get(content, None)

    def copy_of(self, content):
        """The ticks that are left to the kept copy, or None."""
        return self._copies.get(content, None)

    def _stage(self, run):
        """The stage of a run."""
        elapsed = 0 if self.book[run.name].span is None else run.elapsed
        return run.name, run.index, elapsed

    def shown(self, content):
        """The state that a content shows."""
        runs = [self._runs[number] for number in self.running(content)]
        standings = self.rows.standings(content)
        at_row = {run.row: self._stage(run) for run in runs}
        posts = [(standings[row],) + at_row.get(row, ("", 0, 0)) for row in standings]
        alone = [self._stage(run) for run in runs if self._is_alone(run.name)]
        crowd = []
        for run in runs:
            if run.row in standings or self._is_alone(run.name):
                continue
            if may_join(self.book, self.book[run.name]):
                crowd.append(self._stage(run))
            else:
                posts.append(("none",) + self._stage(run))
        age = min(int(self._age(content)), self.book.top)
        mark = min(int(self._marks.get(content, -1)), self.book.top)
        state = (age, mark, self._copies.get(content, -1), alone[0] if alone else (), crowd,
                 tuple(ascending(posts)))
        return settled(self.book, state)

    def _is_here(self, content, event):
        """Whether an event is one of this world and of this content."""
        if event[0] in ("tick", "copy"):
            return self._clock
        if event[0] != "begin":
            return event[1] in self.running(content)
        if event[1] not in self.book:
            return False
        if self.book[event[1]].kind == "hand":
            return is_between(event[2], 0, MOST_ROW)
        return event[2] == -1

    def _happen(self, content, event):
        """An event that is one of this world and of this content happens, or raises why it cannot."""
        if event[0] == "tick":
            self.tick()
        elif event[0] == "copy":
            self.copy()
        elif event[0] == "fall":
            self.fall(event[1])
        elif event[0] == "step":
            self.step(event[1], event[2])
        else:
            self.begin(event[1], content, event[2])

    def happen(self, content, events):
        """These events happen to a content, one after another."""
        for at, event in enumerate(events):
            if not is_event(event) or not self._is_here(content, event):
                raise BadEvent(at)
            try:
                self._happen(content, event)
            except (BadPlace, Busy, NotSo, Unnamed, NotRead):
                raise BadEvent(at)

    def _twin(self, content):
        """Another world in which one content shows the same, and runs get the same numbers."""
        twin = World(self.book, clock=self._clock)
        if content in self.files:
            twin.files[content] = self.files[content]
        standings = self.rows.standings(content)
        for row in standings:
            twin.rows[content, row] = standings[row]
        twin._marks = dict(self._marks)
        twin._copies = dict(self._copies)
        twin._begun = self._begun
        for number in self.running(content):
            name, _, row, index, elapsed = self.stands(number)
            twin._runs[number] = Run(name, content, row, index, elapsed)
        return twin

    def would(self, content, events):
        """The state that a content would show after these events."""
        twin = self._twin(content)
        twin.happen(content, events)
        return twin.shown(content)
