"""Copies of what objects are made with, so that later changes to it have no effect on them."""

from strayfiles.times import Moment, Span


def copied(thing):
    """A copy of any value, which shares nothing with it that can be changed."""
    if isinstance(thing, list):
        return [copied(part) for part in thing]
    if isinstance(thing, tuple):
        return tuple([copied(part) for part in thing])
    if isinstance(thing, dict):
        return {key: copied(thing[key]) for key in thing}
    if isinstance(thing, Span):
        return Span(thing.ticks)
    if isinstance(thing, Moment):
        return Moment(thing.at)
    return thing
