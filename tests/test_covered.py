"""Point 3: whatever handlers do in the engine, what a content shows is covered by a state that moves reach."""

import random
import unittest

from strayfiles.books import Book
from strayfiles.errors import Busy, NotRead, NotSo, TooMany, Unnamed
from strayfiles.moves import reached
from strayfiles.states import covers, is_state
from strayfiles.world import World
from tests.samples import STORE, random_book


def random_deed(chance, world, contents):
    """Something happens in a world, if it can."""
    content = chance.choice(contents)
    running = world.running(content)
    kind = chance.choice(["begin", "begin", "step", "step", "step", "step", "fall", "tick", "copy"])
    try:
        if kind == "begin":
            row = 0 if world.book.names == "own" else chance.randint(0, 2)
            world.begin(chance.choice(world.book.handlers).name, content, row)
        elif kind == "step" and running:
            world.step(chance.choice(running), chance.choice(["", "old", "young"]))
        elif kind == "fall" and running and chance.random() < 0.3:
            world.fall(chance.choice(running))
        elif kind == "tick":
            world.tick()
        elif kind == "copy":
            world.copy()
    except (Busy, NotSo, Unnamed, NotRead):
        pass


class TestCovered(unittest.TestCase):
    def assert_covered(self, book, states, seed, deeds):
        """After each of some random deeds in a world what two contents show is covered."""
        chance = random.Random(seed)
        world = World(book)
        known = {}
        for _ in range(deeds):
            random_deed(chance, world, ["c", "c", "d"])
            for content in ("c", "d"):
                shown = world.shown(content)
                if shown not in known:
                    known[shown] = is_state(book, shown) and any(covers(state, shown) for state in states)
                self.assertTrue(known[shown], (str(book), shown))
        return len(known)

    def test_random_deeds_in_random_books(self):
        shown = books = 0
        for seed in range(250):
            book = random_book(seed)
            try:
                states = reached(book, most=120)
            except TooMany:
                continue
            books += 1
            shown += self.assert_covered(book, states, seed, 60)
        self.assertGreater(books, 100)
        self.assertGreater(shown, 1000)

    def test_many_deeds(self):
        book = Book.read(STORE)
        self.assert_covered(book, reached(book), 0, 1500)


if __name__ == "__main__":
    unittest.main()
