"""Walks of states spelled out as events: for each post and each stage there is a row or a run."""

from strayfiles.deeds import readings_of
from strayfiles.moves import aged, aged_posts, arrivals, busy_readings, idle_posts, walked
from strayfiles.states import IDLE_OPEN, deed, idle_steps, newcomers, sight_of
from strayfiles.world import World

CONTENT = "c"

NOWHERE = ()
FALL = ("fall",)
WHOLE = ("tick", "copy")


class Track:
    """What the runs at one row have done, or one run without a row, and where it is now."""

    def __init__(self, deeds, place):
        # Pairs of a slot and an action; in one slot all that act do the same.
        self.deeds = deeds
        # A post, a stage of the crowd, or () if it is neither.
        self.place = place


class Weaver:
    """Follows moves with tracks: some at each post, and for each stage of the crowd deeds that lead there.

    A track whose deeds are those of another one, each directly behind the other's, changes nothing else.
    So one more track is made of the deeds of one that is there already.
    """

    def __init__(self, book, state):
        self.book = book
        self.state = state
        self.tracks = []
        # For each name and index in the crowd its elapsed ticks, and deeds that lead there.
        self.known = {}
        # The ticks and copies, as deeds.
        self.whole = []
        self.slots = 0
        self._lone = Track([], NOWHERE)
        self._settle()

    def _slot(self):
        """A new slot, later than all others."""
        self.slots += 1
        return self.slots - 1

    def _leads(self, stage, deeds):
        """Whether these deeds lead to a stage that is fresher than what was known; they are kept then."""
        name, index, elapsed = stage
        if (name, index) in self.known and self.known[name, index][0] <= elapsed:
            return False
        self.known[name, index] = (elapsed, deeds)
        return True

    def _settle(self):
        """How to come to all stages that runs reach without changing anything."""
        sight = sight_of(self.state, "none")
        for stage in newcomers(self.book, sight):
            self._leads(stage, [(self._slot(), ("begin", stage[0]))])
        waiting = [(name, index, self.known[name, index][0]) for name, index in self.known]
        while waiting:
            name, index, elapsed = waiting.pop(0)
            least, deeds = self.known[name, index]
            # A fresher one has come, and waits itself.
            if least < elapsed:
                continue
            for reading, stage in idle_steps(self.book, self.state, sight, (name, index, elapsed)):
                if self._leads(stage, deeds + [(self._slot(), ("step", reading, reading))]):
                    waiting.append(stage)

    def follow(self, move, new):
        """A move is made, which leads to this state."""
        if new == self.state and move[0] not in WHOLE:
            # Nobody more is needed, and nobody needs to move.
            return
        slot = self._slot()
        if move[0] in WHOLE:
            self.whole.append((slot, move))
        if move[0] == "tick":
            self._tick()
        elif move[0] in ("alone", "lone", "quit"):
            self._go_alone(slot, move, new)
        elif move[0] == "free":
            self._go_free(slot, move, new)
        elif move[0] != "copy":
            self._go_along(slot, move, new)
        if IDLE_OPEN not in new[5]:
            self._leave(IDLE_OPEN)
        self.state = new
        self._settle()

    def _leave(self, post):
        """The rows at an idle post are taken away."""
        for track in self._at(post):
            track.place = NOWHERE

    def _at(self, place):
        """The tracks that are at a place."""
        return [track for track in self.tracks if track.place == place]

    def _tick(self):
        """All runs are one tick older, or over."""
        for track in self.tracks:
            if len(track.place) == 4:
                older = aged_posts(self.book, track.place)
            else:
                older = aged(self.book, track.place)
            track.place = older[0] if older else NOWHERE
        known = {}
        for (name, index), (elapsed, deeds) in self.known.items():
            for stage in aged(self.book, (name, index, elapsed)):
                known[name, index] = (stage[2], deeds)
        self.known = known

    def _step_action(self, name, index, reading, new):
        """A step with a reading, and with the one of those that take it directly afterwards."""
        later = readings_of(self.book, self.book[name].statements[index], sight_of(new, "none"))
        if reading in later:
            return "step", reading, reading
        return "step", reading, later[0]

    def _go_alone(self, slot, move, new):
        """The sweep that is called alone begins, goes on or falls."""
        if move[0] == "alone":
            self._lone = Track([(slot, ("begin", move[1]))], NOWHERE)
            self.tracks.append(self._lone)
        elif move[0] == "quit":
            self._lone.deeds.append((slot, FALL))
        else:
            name, index, _ = self.state[3]
            self._lone.deeds.append((slot, self._step_action(name, index, move[1], new)))

    def _go_free(self, slot, move, new):
        """A run of the crowd does something."""
        _, name, index = move
        elapsed, deeds = self.known[name, index]
        stage = (name, index, elapsed)
        tracks = self._at(stage)
        if not tracks:
            tracks = [self._added(deeds, stage)]
        reading = busy_readings(self.book, self.state, name, index)[0]
        place = self._place_after(stage, "none", reading)
        self._act(tracks[:1], (slot, self._step_action(name, index, reading, new)), place)

    def _added(self, deeds, place):
        """A new track with the same deeds as another one."""
        track = Track(list(deeds), place)
        self.tracks.append(track)
        return track

    def _go_along(self, slot, move, new):
        """Runs at rows begin, go on or fall, one of them or all."""
        kind, how = move[0], move[-1]
        if kind == "begin":
            post, place, action = self._beginning(move)
        elif kind == "fall":
            post, action = move[1:5], FALL
            place = self._idle_place(post[0])
        else:
            post, reading = move[1:5], move[5]
            action = self._step_action(post[1], post[2], reading, new)
            place = self._place_after(post[1:], post[0], reading)
        tracks = self._at(post)
        if not tracks:
            # With own names a hand begins where no row is.
            tracks = [self._added([], post)]
        deeds = list(tracks[0].deeds)
        self._act(tracks if how == "all" else tracks[:1], (slot, action), place)
        if how == "some" and not self._at(post):
            self._added(deeds, post)

    def _beginning(self, move):
        """Where the runs are that begin by a move, where they are then, and their action."""
        standing, name = move[1], move[2]
        return (standing, "", 0, 0), (standing, name, 0, 0), ("begin", name)

    def _idle_place(self, standing):
        """Where a row is at which no run stands any more."""
        posts = idle_posts(standing)
        return posts[0] if posts else NOWHERE

    def _place_after(self, stage, own, reading):
        """Where a run is after its statement."""
        name, index, elapsed = stage
        at, after = deed(self.book[name], index, self.state, sight_of(self.state, own), reading)
        stages, posts = arrivals(self.book, (name, at, elapsed), after[3])
        places = stages + posts
        return places[0] if places else NOWHERE

    def _act(self, tracks, act, place):
        """Tracks act in one slot, and come to a place."""
        for track in tracks:
            track.deeds.append(act)
            track.place = place
        if len(place) == 3:
            self._leads(place, list(tracks[0].deeds))

    def fill(self):
        """There is a track at each stage of the crowd."""
        for stage in self.state[4]:
            if not self._at(stage):
                self._added(self.known[stage[0], stage[1]][1], stage)


def by_slots(weaver):
    """For each slot the actions in it, each with the number of its track; -1 for ticks and copies."""
    table = [[] for _ in range(weaver.slots)]
    for slot, action in weaver.whole:
        table[slot].append((-1, action))
    for number, track in enumerate(weaver.tracks):
        for slot, action in track.deeds:
            table[slot].append((number, action))
    return table


class Speller:
    """Writes the actions of tracks as events of numbered runs."""

    def __init__(self, book):
        self.book = book
        self.events = []
        # The last run of each track.
        self._runs = {}
        self._begun = 0

    def begin(self, number, name):
        """A track's next run begins."""
        row = -1
        if self.book[name].kind == "hand":
            row = number if self.book.names == "shared" else 0
        self._runs[number] = self._begun
        self._begun += 1
        self.events.append(("begin", name, row))

    def write(self, number, action, is_first):
        """The action of a track, which is the first one or a later one in its slot."""
        if action[0] in WHOLE:
            self.events.append(action)
        elif action[0] == "begin":
            self.begin(number, action[1])
        elif action[0] == "fall":
            self.events.append(("fall", self._runs[number]))
        else:
            self.events.append(("step", self._runs[number], action[1] if is_first else action[2]))


def spelled(book, moves):
    """The events after which a content shows the state to which the moves lead."""
    states = walked(book, moves)
    weaver = Weaver(book, states[0])
    for move, new in zip(moves, states[1:]):
        weaver.follow(move, new)
    weaver.fill()
    speller = Speller(book)
    for actions in by_slots(weaver):
        for at, (number, action) in enumerate(actions):
            speller.write(number, action, at == 0)
    return speller.events


def played(book, events):
    """A new world in which the events have happened to a content."""
    world = World(book)
    world.happen(CONTENT, events)
    return world
