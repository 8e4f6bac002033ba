"""Events without a clock, and what times of any size must be like so that they can happen."""

from strayfiles.copies import copied
from strayfiles.deeds import age_to_read, carried_out, rightly
from strayfiles.errors import BadEvent
from strayfiles.order import ascending
from strayfiles.times import Moment, Span
from strayfiles.world import World, is_event

CONTENT = "c"


class Times:
    """An age, an off and spans for some handlers, each of any size."""

    def __init__(self, age, off, **spans):
        self.age = copied(age)
        self.off = copied(off)
        self._spans = copied(spans)

    def span_of(self, name):
        """The span of the handlers of this name, or None."""
        return self._spans.get(name, None)


class Deed:
    """What a run does by its next step."""

    def __init__(self, statement, seen, reading, acts):
        self.statement = statement
        # The sight before it.
        self.seen = seen
        # The one that is made; empty where none matters.
        self.reading = reading
        self.acts = acts

    def renews_file(self):
        """Whether the file gets the age 0."""
        word = self.statement.word
        return self.acts and (word == "put" or (word == "touch" and self.seen.age >= 0))

    def makes_mark(self):
        """Whether a mark gets the age 0."""
        return self.acts and self.statement.word == "mark" and self.seen.mark < 0

    def reads_file(self):
        """Whether it is the file's age that is read, if one is."""
        return self.statement.condition in ("old", "young")


def foreseen(world, event):
    """What is done by any value as an event, in a list; none if it is no step of a run that is not over."""
    if not is_event(event) or event[0] != "step" or event[1] not in world.running(CONTENT):
        return []
    name, _, _, index, _ = world.stands(event[1])
    handler = world.book[name]
    statement = handler.statements[index]
    sight = world.sight(event[1])
    reading = event[2]
    if reading == "" or age_to_read(statement, sight) < 0:
        reading = rightly(world.book, statement, sight)
    _, acts = carried_out(handler, index, sight, reading)
    return [Deed(statement, sight, reading, acts)]


def let_happen(world, at, event):
    """The event at this index happens."""
    try:
        world.happen(CONTENT, [event])
    except BadEvent:
        raise BadEvent(at)


def untimed(book, events):
    """The events without copies and ticks, with falls and with the readings that were made."""
    world = World(book)
    found = []
    for at, event in enumerate(events):
        deeds = foreseen(world, event)
        running = world.running(CONTENT)
        let_happen(world, at, event)
        if event[0] == "tick":
            left = world.running(CONTENT)
            found.extend([("fall", run) for run in running if run not in left])
        elif event[0] == "step":
            found.append(("step", event[1], deeds[0].reading))
        elif event[0] != "copy":
            found.append(event)
    return found


class Ledger:
    """What events without a clock ask of their moments.

    A limit (i, j, d, k) says that event j is at most d ticks and k ages behind event i.
    """

    def __init__(self, book, times):
        self.times = times
        self.limits = []
        self._world = World(book, clock=False)
        # The last event by which the file, and the mark, got the age 0.
        self._file = 0
        self._mark = 0
        # For each run that is not over the event by which it began, and its span.
        self._begun = {}

    def take(self, at, event):
        """The event at this index happens."""
        deeds = foreseen(self._world, event)
        let_happen(self._world, at, event)
        if at > 0:
            self.limits.append((at, at - 1, 0, 0))
        for deed in deeds:
            self._note(at, deed)
        running = self._world.running(CONTENT)
        if event[0] == "begin":
            self._begun[running[-1]] = (at, self.times.span_of(event[1]))
        elif event[1] not in running:
            self._end(event[1], at - 1 if event[0] == "fall" else at)

    def _note(self, at, deed):
        """What a step has read, and whether it made an age 0."""
        off = self.times.off.ticks
        since = self._file if deed.reads_file() else self._mark
        if deed.reading == "old":
            self.limits.append((at, since, off, -1))
        elif deed.reading == "young":
            self.limits.append((since, at, off - 1, 1))
        if deed.renews_file():
            self._file = at
        if deed.makes_mark():
            self._mark = at

    def _end(self, run, at):
        """A run was not over at this event, or not before it."""
        begun, span = self._begun[run]
        if span is not None:
            self.limits.append((begun, at, span.ticks, 0))

    def close(self, many):
        """There are so many events; no more come."""
        for run in self._world.running(CONTENT):
            self._end(run, many - 1)


def limits_of(book, events, times):
    """The limits of events."""
    ledger = Ledger(book, times)
    for at, event in enumerate(events):
        ledger.take(at, event)
    ledger.close(len(events))
    return ledger.limits


def bound_of(limit, age):
    """The bound that a limit is for an age."""
    i, j, ticks, ages = limit
    return i, j, ticks + ages * age


def bounds(book, events, times):
    """The bounds of the moments of events, ascending."""
    age = times.age.ticks
    return ascending([bound_of(limit, age) for limit in limits_of(book, events, times)])


def ring_of(last):
    """A ring of limits off a dict from events to a limit that begins there; an empty list if there is none."""
    been = {}
    for start in last:
        at = start
        while at in last and at not in been:
            been[at] = start
            at = last[at][1]
        if been.get(at, -1) == start:
            return ring_from(last, at)
    return []


def ring_from(last, start):
    """The ring of limits that goes through an event."""
    ring = [last[start]]
    while ring[-1][1] != start:
        ring.append(last[ring[-1][1]])
    return ring


def scheduled(many, limits, age):
    """The least moments of so many events, the first one at 0, or a ring of limits."""
    moments = [0] * many
    # For each event that was put off the limit that did it last.
    last = {}
    while True:
        before = list(moments)
        for limit in limits:
            i, j, ticks = bound_of(limit, age)
            if moments[i] < moments[j] - ticks:
                moments[i] = moments[j] - ticks
                last[i] = limit
        ring = ring_of(last)
        if ring or moments == before:
            return moments, ring


class Timetable:
    """Moments of events, or a ring of bounds that no moments keep."""

    def __init__(self, events, moments, ring):
        self.events = events
        self.moments = moments
        self.ring = ring

    def __bool__(self):
        return not self.ring

    def __len__(self):
        return len(self.events)

    def __str__(self):
        if self.ring:
            return "\n".join([f"{j} - {i} at most {ticks}" for i, j, ticks in self.ring])
        return "\n".join([line_of(moment, event) for moment, event in zip(self.moments, self.events)])


def line_of(moment, event):
    """A moment and the event that happens then, in a line."""
    words = " ".join([str(part) if part != "" else "-" for part in event])
    return f"{moment.at:>8}  {words}"


def timetable(book, events, times):
    """The least moments at which events can happen, or why there are none."""
    age = times.age.ticks
    moments, ring = scheduled(len(events), limits_of(book, events, times), age)
    if ring:
        return Timetable(tuple(events), (), tuple([bound_of(limit, age) for limit in ring]))
    return Timetable(tuple(events), tuple([Moment(at) for at in moments]), ())


def sums_of(ring):
    """The ticks and the ages of a ring of limits."""
    return sum([ticks for _, _, ticks, _ in ring]), sum([ages for _, _, _, ages in ring])


def least_possible(many, limits):
    """The least age, in a list; none if there is no age."""
    age = 0
    while True:
        _, ring = scheduled(many, limits, age)
        if not ring:
            return [age]
        ticks, ages = sums_of(ring)
        # Greater ages do not make this ring possible.
        if ages <= 0:
            return []
        age = -(ticks // ages)


def greatest_possible(many, limits):
    """The greatest age, or None, if there is an age at all."""
    # No ring without a limit more than once bounds the age by as much as this.
    beyond = 1 + sum([abs(ticks) for _, _, ticks, _ in limits])
    age = beyond
    while True:
        _, ring = scheduled(many, limits, age)
        if not ring:
            return None if age == beyond else age
        ticks, ages = sums_of(ring)
        age = ticks // -ages


def possible_ages(book, events, times):
    """The least and the greatest age with which events are possible."""
    limits = limits_of(book, events, times)
    least = least_possible(len(events), limits)
    if not least:
        return None
    greatest = greatest_possible(len(events), limits)
    if greatest is None:
        return Span(least[0]), None
    return Span(least[0]), Span(greatest)
