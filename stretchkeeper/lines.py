"""Lines: all whole numbers, each of them in or out.

A line is a tuple (low, edges). Low is True or False: whether the numbers below
all edges are in. The edges are a tuple of numbers, rising: from each one on,
what was out is in, or what was in is out. So each choice of numbers has just
one line, and no line can be changed: keepers may share it.
"""

from stretchkeeper.stretches import size_of

NOTHING = (False, ())


def line_of(stretch):
    """The line that has just the numbers of the stretch."""
    first, last = stretch
    edges = []
    if first is not None:
        edges.append(first)
    if last is not None:
        edges.append(last + 1)
    return (first is None, tuple(edges))


def stretches_of(line):
    """The fewest stretches that together have just the line's numbers, rising."""
    low, edges = line
    ends = [None, *edges] if low else [*edges]
    if len(ends) % 2 == 1:
        ends.append(None)
    return [(ends[at], _one_before(ends[at + 1])) for at in range(0, len(ends), 2)]


def _one_before(edge):
    return None if edge is None else edge - 1


def many_of(line):
    """How many numbers are in, None where there is no end of them."""
    sizes = [size_of(stretch) for stretch in stretches_of(line)]
    return None if None in sizes else sum(sizes)


def _passed(line, number):
    """How many edges the line has up to the number, this one too."""
    _, edges = line
    start, end = 0, len(edges)
    while start < end:
        middle = (start + end) // 2
        if edges[middle] <= number:
            start = middle + 1
        else:
            end = middle
    return start


def is_in(line, number):
    """Whether the number is in."""
    low, _ = line
    return low != (_passed(line, number) % 2 == 1)


def next_where(line, number, wanted):
    """The least number, from this one on, that is in as wanted, None where there is none."""
    if is_in(line, number) == wanted:
        return number
    _, edges = line
    passed = _passed(line, number)
    return edges[passed] if passed < len(edges) else None


def last_where(line, number, wanted):
    """The greatest number, up to this one, that is in as wanted, None where there is none."""
    if is_in(line, number) == wanted:
        return number
    _, edges = line
    passed = _passed(line, number)
    return edges[passed - 1] - 1 if passed > 0 else None


def combined(one, other, rule):
    """The line of the numbers of which the rule is true: rule(in one, in other)."""
    low = rule(one[0], other[0])
    edges = []
    now = low
    for edge in sorted(set(one[1] + other[1])):
        behind = rule(is_in(one, edge), is_in(other, edge))
        if behind != now:
            edges.append(edge)
            now = behind
    return (low, tuple(edges))


def in_either(one, other):
    """The rule of what is in one line, in the other one or in both."""
    return one or other


def in_both(one, other):
    """The rule of what is in both lines."""
    return one and other


def in_first_only(one, other):
    """The rule of what is in the one line and not in the other one."""
    return one and not other


def in_just_one(one, other):
    """The rule of what is in just one of both lines."""
    return one != other


def moved(line, steps):
    """The line that has n + steps for each number n of this one."""
    low, edges = line
    return (low, tuple([edge + steps for edge in edges]))


def mirrored(line):
    """The line that has 0 - n for each number n of this one."""
    low, edges = line
    high = low != (len(edges) % 2 == 1)
    # An edge lies between edge - 1 and edge, so mirrored between -edge and 1 - edge.
    return (high, tuple([1 - edge for edge in edges[::-1]]))
