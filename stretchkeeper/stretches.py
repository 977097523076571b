"""Stretches: tuples (first, last) of all numbers from first to last, these too.

A first or a last that is None stands for no end on that side.
"""

from stretchkeeper.errors import BadNumber, BadStretch


def is_number(thing):
    """Whether the thing is a whole number."""
    # Not isinstance: it counts True and False as numbers, and a thing can
    # tell it a false class or fail in being asked.
    return type(thing) is int


def check_number(thing):
    """Refuses what is no number."""
    # No message shows the thing: showing it may fail, or take long.
    if not is_number(thing):
        raise BadNumber("a number is an int, not True and not False")


def _is_end(thing):
    return thing is None or is_number(thing)


def is_stretch(thing):
    """Whether the thing is a stretch."""
    if type(thing) is not tuple or len(thing) != 2:
        return False
    first, last = thing
    if not _is_end(first) or not _is_end(last):
        return False
    return first is None or last is None or first <= last


def check_stretch(thing):
    """Refuses what is no stretch."""
    if not is_stretch(thing):
        raise BadStretch("a stretch is a tuple (first, last), the last not less than the first")


def has_number(stretch, number):
    """Whether the number lies in the stretch."""
    check_stretch(stretch)
    check_number(number)
    first, last = stretch
    if first is not None and number < first:
        return False
    return last is None or number <= last


def size_of(stretch):
    """How many numbers the stretch has, None where it lacks an end."""
    check_stretch(stretch)
    first, last = stretch
    if first is None or last is None:
        return None
    return last - first + 1


def shared(one, other):
    """The stretch of all numbers that both stretches have, None where there are none."""
    check_stretch(one)
    check_stretch(other)
    firsts = [stretch[0] for stretch in (one, other) if stretch[0] is not None]
    lasts = [stretch[1] for stretch in (one, other) if stretch[1] is not None]
    both = (max(firsts, default=None), min(lasts, default=None))
    # Of stretches that lie apart the greater first is beyond the lesser last.
    return both if is_stretch(both) else None
