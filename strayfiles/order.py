"""Putting things into ascending order."""


def merged(low, high):
    """One ascending list of two; what stands in both comes once."""
    out = []
    at = 0
    for thing in low:
        while at < len(high) and high[at] < thing:
            out.append(high[at])
            at += 1
        if at < len(high) and high[at] == thing:
            at += 1
        out.append(thing)
    return out + high[at:]


# An own order, because sorted is not meant for tuples in a package whose classes compare.
def ascending(things):
    """A new list of the different ones of a list or tuple, in Python's order."""
    if len(things) < 2:
        return list(things)
    half = len(things) // 2
    return merged(ascending(things[:half]), ascending(things[half:]))
