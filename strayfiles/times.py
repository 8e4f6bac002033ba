"""Spans, which are numbers of ticks, and moments, which are points in time."""


def is_whole(thing):
    """Whether a value is an integer, which True and False are not."""
    return isinstance(thing, int) and not isinstance(thing, bool)


def is_between(thing, least, most):
    """Whether a value is an integer within these bounds."""
    return is_whole(thing) and least <= thing <= most


class Span:
    """A number of ticks, also below zero."""

    def __init__(self, ticks):
        self.ticks = ticks

    def __repr__(self):
        return f"Span({self.ticks})"

    def __str__(self):
        if self.ticks == 1:
            return "1 tick"
        return f"{self.ticks} ticks"

    def __bool__(self):
        return bool(self.ticks)

    # False instead of NotImplemented, because the other value would be asked then.
    def __eq__(self, other):
        return isinstance(other, Span) and self.ticks == other.ticks

    def __ne__(self, other):
        return not isinstance(other, Span) or self.ticks != other.ticks

    def __lt__(self, other):
        if not isinstance(other, Span):
            return NotImplemented
        return self.ticks < other.ticks

    def __le__(self, other):
        if not isinstance(other, Span):
            return NotImplemented
        return self.ticks <= other.ticks

    def __gt__(self, other):
        if not isinstance(other, Span):
            return NotImplemented
        return self.ticks > other.ticks

    def __ge__(self, other):
        if not isinstance(other, Span):
            return NotImplemented
        return self.ticks >= other.ticks

    def __neg__(self):
        return Span(-self.ticks)

    def __abs__(self):
        return Span(abs(self.ticks))

    def __add__(self, other):
        if not isinstance(other, Span):
            return NotImplemented
        return Span(self.ticks + other.ticks)

    def __sub__(self, other):
        if not isinstance(other, Span):
            return NotImplemented
        return Span(self.ticks - other.ticks)

    def __mul__(self, other):
        if not is_whole(other):
            return NotImplemented
        return Span(self.ticks * other)

    def __rmul__(self, other):
        if not is_whole(other):
            return NotImplemented
        return Span(other * self.ticks)

    def __floordiv__(self, other):
        if not isinstance(other, Span):
            return NotImplemented
        return self.ticks // other.ticks

    def __mod__(self, other):
        if not isinstance(other, Span):
            return NotImplemented
        return Span(self.ticks % other.ticks)


class Moment:
    """A point in time."""

    def __init__(self, at):
        self.at = at

    def __repr__(self):
        return f"Moment({self.at})"

    def __str__(self):
        return f"at {self.at}"

    # False instead of NotImplemented, because the other value would be asked then.
    def __eq__(self, other):
        return isinstance(other, Moment) and self.at == other.at

    def __ne__(self, other):
        return not isinstance(other, Moment) or self.at != other.at

    def __lt__(self, other):
        if not isinstance(other, Moment):
            return NotImplemented
        return self.at < other.at

    def __le__(self, other):
        if not isinstance(other, Moment):
            return NotImplemented
        return self.at <= other.at

    def __gt__(self, other):
        if not isinstance(other, Moment):
            return NotImplemented
        return self.at > other.at

    def __ge__(self, other):
        if not isinstance(other, Moment):
            return NotImplemented
        return self.at >= other.at

    def __add__(self, other):
        if not isinstance(other, Span):
            return NotImplemented
        return Moment(self.at + other.ticks)

    def __radd__(self, other):
        if not isinstance(other, Span):
            return NotImplemented
        return Moment(other.ticks + self.at)

    def __sub__(self, other):
        if isinstance(other, Moment):
            return Span(self.at - other.at)
        if not isinstance(other, Span):
            return NotImplemented
        return Moment(self.at - other.ticks)
