"""Point 3 and what hangs together over the whole program: what certificates say is what the engine shows."""

import random
import unittest

from strayfiles.books import Book
from strayfiles.calm import faults, round_moves
from strayfiles.cares import Alone, Insert, Under, Waiting, cared, least_cares
from strayfiles.comparing import compare, has_history, history
from strayfiles.crowds import played, spelled
from strayfiles.errors import Busy, NotRead, NotSo, TooMany, Unfinished, Unnamed
from strayfiles.handlers import Hand, Reader, Sweep
from strayfiles.judging import judge
from strayfiles.lives import longest
from strayfiles.moves import moved, moves_of, walked
from strayfiles.states import first_state
from strayfiles.world import World
from tests import plain
from tests.samples import OWN, STORE, likely_book, random_book
from tests.test_crowds import places

# Short enough that some lives end, and long enough that they are not all 0.
ENDING = [
    Book.read(STORE),
    Book(Hand("h", "skip if file", "put", "done", span=1), Sweep("a", "stop if named", "strike if old"), age=2),
    Book(Hand("h", "skip if file", "put", "done", span=2), Sweep("a", "strike if old", alone=True), age=1, off=1),
    Book(Hand("h", "skip if file", "put", span=0), Sweep("a", "stop if unmarked", "strike"), Sweep("b", "mark"),
         age=1),
]


def books(seeds=40):
    for make in (likely_book, random_book):
        for seed in range(seeds):
            yield make(seed)


def falls(world, content="c"):
    """All runs fall."""
    for run in world.running(content):
        world.fall(run)


def sweeps(world, content="c"):
    """A round of the engine: each sweep of the book is called once; one that is called alone falls before."""
    for run in world.running(content):
        handler = world.book[world.stands(run)[0]]
        if handler.kind == "sweep" and handler.alone:
            world.fall(run)
    for handler in world.book:
        if handler.kind == "sweep":
            try:
                handler(world, content)
            except Unfinished:
                pass


def calm(world):
    """The calm of a content in the engine; so many ticks change nothing more."""
    falls(world)
    for _ in range(5):
        for _ in range(12):
            world.tick()
        sweeps(world)


def is_of_use(world, handler, row):
    """Whether a hand that is called now leaves a done row and a file."""
    try:
        handler(world, "c", row)
    except Unfinished:
        return False
    return "c" in world.files and ("c", row) in world.rows and world.rows["c", row] == "done"


def is_barred(book, events):
    """Whether no hand is of use in the calm of a world in which these events have happened."""
    begins, row = "none", 0 if book.names == "own" else 10 ** 6
    world = played(book, events)
    calm(world)
    if book.names == "own":
        begins = world.rows.standings("c").get(0, "none")
        if begins == "done":
            return False
    found = False
    for handler in book:
        if handler.kind == "hand" and handler.begins == begins:
            world = played(book, events)
            calm(world)
            found = found or is_of_use(world, handler, row)
    return not found


def shows_fault(book, events, fault):
    """Whether a world in which these events have happened has a fault, as the document describes it."""
    world = played(book, events)
    file, named = "c" in world.files, world.rows.is_named("c")
    if fault == "lost":
        return named and not file
    if fault == "blind":
        stands = [world.stands(run) for run in world.running("c")]
        return not file and any(book[name].statements[index].word == "read" for name, _, _, index, _ in stands)
    if fault == "torn":
        return world.copy_of("c") is not None and not file
    if fault == "barred":
        return is_barred(book, events)
    calm(world)
    return file and not named and "c" in world.files


class TestWeavings(unittest.TestCase):
    def test_the_faults_show_in_the_engine(self):
        seen = set()
        for book in [Book.read(STORE), Book.read(OWN)] + list(books()):
            for fault in ("lost", "blind", "stray", "torn", "barred"):
                try:
                    verdict = judge(book, asks=(fault,), most=60)
                except TooMany:
                    continue
                if not verdict:
                    events = spelled(book, verdict.weaving)
                    self.assertEqual(played(book, events).shown("c"), list(verdict)[-1])
                    for one in ("lost", "blind", "stray", "torn", "barred"):
                        self.assertEqual(shows_fault(book, events, one), one in verdict.faults, (str(book), one))
                    seen.add(fault)
        self.assertEqual(seen, {"lost", "blind", "stray", "torn", "barred"})

    def test_no_weaving_of_a_kept_book_shows_a_fault(self):
        several = 0
        for book in books():
            try:
                verdict = judge(book, asks=("lost", "blind"), most=60)
            except TooMany:
                continue
            if verdict:
                chance, world = random.Random(several), World(book)
                several += 1
                for _ in range(60):
                    random_deed(chance, world)
                    self.assertFalse(world.rows.is_named("c") and "c" not in world.files)
        self.assertGreater(several, 20)

    def test_mended_books(self):
        book = Book(Hand("store", "put", "done", span=1), Reader("eye", "read", span=0),
                    Sweep("sweep", "strike", span=0))
        offered = [Waiting(2), Insert("sweep", 0, "stop if named"), Under("sweep", 0, "old"), Alone("sweep")]
        choice = least_cares(book, offered, most=400)
        self.assertEqual(choice.least, ((0, 1, 2),))
        for one, weaving in choice.weavings.items():
            mended = cared(book, [offered[at] for at in one])
            events = spelled(mended, weaving)
            state = walked(mended, weaving)[-1]
            self.assertEqual(played(mended, events).shown("c"), state)
            self.assertTrue({"lost", "blind", "stray"} & set(faults(mended, state)))


def random_deed(chance, world):
    """Something but a tick happens to the content, if it can."""
    running = world.running("c")
    try:
        if chance.random() < 0.4:
            row = 0 if world.book.names == "own" else chance.randint(0, 3)
            world.begin(chance.choice(world.book.handlers).name, "c", row)
        elif running and chance.random() < 0.9:
            world.step(chance.choice(running), chance.choice(["", "old", "young"]))
        elif running and chance.random() < 0.3:
            world.fall(chance.choice(running))
        else:
            world.copy()
    except (Busy, NotSo, Unnamed, NotRead):
        pass


def is_unnamed(world):
    return "c" in world.files and not world.rows.is_named("c")


class TestLives(unittest.TestCase):
    def test_loops_in_the_engine(self):
        """The ways of a life without end, as often as one likes: as many ticks, and the file is still there."""
        several = 0
        for book in books():
            try:
                life = longest(book, most=60)
            except TooMany:
                continue
            if life.ticks is not None:
                continue
            several += 1
            _, moves, ways = life.certificate
            state = walked(book, moves)[-1]
            loop, now = [], state
            for way in ways:
                more = round_moves(book, now) if way == ("round",) else [way]
                for move in more:
                    now = moved(book, now, move)
                loop += more
            self.assertEqual(now, state)
            for often in (1, 3):
                events = spelled(book, list(moves) + loop * often)
                world = played(book, events)
                self.assertEqual(world.shown("c"), state)
                self.assertTrue(is_unnamed(world))
                self.assertGreaterEqual(world.now, often)
                self.assertTrue(set(state[4]) | set(state[5]) <= places(world))
        self.assertGreater(several, 10)

    def test_no_file_lasts_longer_in_the_engine(self):
        """Ticks with a round between any two of them, as long as nobody names the file."""
        most_seen = 0
        for number, book in enumerate(ENDING):
            life = longest(book, most=400)
            self.assertIsNotNone(life.ticks)
            self.assertGreater(life.ticks, 0)
            for seed in range(60):
                chance, world, ticks = random.Random(100 * number + seed), World(book), 0
                for _ in range(40):
                    for _ in range(chance.choice([0, 0, 1, 3])):
                        random_deed(chance, world)
                        ticks = ticks if is_unnamed(world) else 0
                    sweeps(world)
                    ticks = ticks if is_unnamed(world) else 0
                    world.tick()
                    ticks = ticks + 1 if is_unnamed(world) else 0
                    self.assertLessEqual(ticks, life.ticks)
                    most_seen = max(most_seen, ticks)
        self.assertGreater(most_seen, 1)


class TestHistories(unittest.TestCase):
    def test_what_a_stranger_sees_in_the_engine(self):
        """Whatever handlers do, what is seen is a history of the book."""
        several = longest_seen = 0
        for book in books():
            chance, world, seen = random.Random(several), World(book), [(0, 0)]
            for _ in range(60):
                if chance.random() < 0.2:
                    world.tick()
                random_deed(chance, world)
                look = (int("c" in world.files), int(world.rows.is_named("c")))
                if look != seen[-1]:
                    seen.append(look)
            try:
                self.assertTrue(has_history(book, tuple(seen[1:]), most=400), (str(book), seen))
            except TooMany:
                continue
            several += 1
            longest_seen = max(longest_seen, len(seen))
        self.assertGreater(several, 50)
        self.assertGreater(longest_seen, 5)

    def test_the_history_that_parts_two_books(self):
        """One of them can be made to show it in the engine."""
        several = 0
        chosen = list(books(15))
        for one, other in zip(chosen, chosen[1:]):
            try:
                found = compare(one, other, most=60)
            except TooMany:
                continue
            if not found:
                several += 1
                book = (one, other)[found.certificate[2]]
                moves = walk_with(book, found.parting)
                self.assertEqual(history(book, moves), found.parting)
                world, seen = World(book), [(0, 0)]
                for event in spelled(book, moves):
                    world.happen("c", [event])
                    look = (int("c" in world.files), int(world.rows.is_named("c")))
                    if look != seen[-1]:
                        seen.append(look)
                self.assertEqual(tuple(seen[1:]), found.parting)
        self.assertGreater(several, 5)


def walk_with(book, seen):
    """Moves of a walk with this history, found level by level."""
    first = (first_state(book), 0)
    walks, waiting = {first: []}, [first]
    for state, at in waiting:
        if at == len(seen):
            return walks[state, at]
        for move in moves_of(book, state):
            new = moved(book, state, move)
            then = at if plain.look(new) == plain.look(state) else at + 1
            if (then == at or plain.look(new) == seen[at]) and (new, then) not in walks:
                walks[new, then] = walks[state, at] + [move]
                waiting.append((new, then))
    raise AssertionError("no such walk")


if __name__ == "__main__":
    unittest.main()
