"""Crowds of stages: where runs without a row stand, the freshest of each place only."""

from strayfiles.order import ascending


def freshest(stages):
    """The stages, ascending, of which each has the least elapsed for its name and index."""
    least = {}
    for name, index, elapsed in stages:
        if elapsed < least.get((name, index), elapsed + 1):
            least[name, index] = elapsed
    return tuple(ascending([(name, index, least[name, index]) for name, index in least]))


class Stages:
    """Stages, of which one stands for all that are not fresher at the same place."""

    def __init__(self, stages=()):
        self._crowd = freshest(stages)

    @property
    def crowd(self):
        """The stages, ascending."""
        return self._crowd

    def __len__(self):
        return len(self._crowd)

    def __iter__(self):
        return iter(self._crowd)

    def __contains__(self, x):
        name, index, elapsed = x
        return any([one[0] == name and one[1] == index and one[2] <= elapsed for one in self._crowd])

    def __or__(self, other):
        if not isinstance(other, Stages):
            return NotImplemented
        return Stages(self._crowd + other.crowd)

    def __and__(self, other):
        if not isinstance(other, Stages):
            return NotImplemented
        return Stages([stage for stage in self._crowd + other.crowd if stage in self and stage in other])

    def __sub__(self, other):
        if not isinstance(other, Stages):
            return NotImplemented
        return Stages([stage for stage in self._crowd if stage not in other])

    def __ior__(self, other):
        if not isinstance(other, Stages):
            return NotImplemented
        self._crowd = freshest(self._crowd + other.crowd)
        return self

    def within(self, b):
        """Whether each stage is among the others, too."""
        return all([stage in b for stage in self._crowd])

    def __eq__(self, other):
        return isinstance(other, Stages) and self._crowd == other.crowd

    def __repr__(self):
        return f"Stages({self._crowd!r})"
