"""What a keeper has to do, worked out number by number, without the program.

A model is the set of the numbers of a box that are in. The least and the
greatest number of the box stand for all numbers beyond them too, so it holds
as long as all ends of stretches lie well within the box.
"""

from itertools import combinations

from stretchkeeper.keepers import Keeper

EDGE = 60
BOX = range(-EDGE, EDGE + 1)

# The numbers that the many small keepers differ in; below and above them they have all or none.
CELLS = range(-2, 3)


def numbers_of(stretch):
    first, last = stretch
    from_first = [n for n in BOX if first is None or n >= first]
    return {n for n in from_first if last is None or n <= last}


def moved(model, steps):
    return {n for n in BOX if max(-EDGE, min(EDGE, n - steps)) in model}


def mirrored(model):
    return {-n for n in model}


STRETCH_DEEDS = {
    "put": lambda model, stretch: model | numbers_of(stretch),
    "take": lambda model, stretch: model - numbers_of(stretch),
    "keep": lambda model, stretch: model & numbers_of(stretch),
    "turn": lambda model, stretch: model ^ numbers_of(stretch),
}

KEEPER_DEEDS = {
    "gain": lambda model, other: model | other,
    "lose": lambda model, other: model - other,
    "meet": lambda model, other: model & other,
    "part": lambda model, other: model ^ other,
}


def stretches_of(model):
    told = []
    for n in BOX:
        if n in model and n - 1 not in model:
            told.append((None if n == -EDGE else n, n))
        elif n in model:
            told[-1] = (told[-1][0], n)
    return [(first, None if last == EDGE else last) for first, last in told]


def many_of(model):
    return None if -EDGE in model or EDGE in model else len(model)


def below_of(model, number):
    return None if -EDGE in model else len([n for n in model if n < number])


def at_of(model, place):
    """None where there is no such number."""
    rising = sorted(model)
    if -EDGE in model:
        return None
    if place < len(rising):
        return rising[place]
    return EDGE + 1 + place - len(rising) if EDGE in model else None


def next_of(model, number, wanted):
    return min([n for n in BOX if n >= number and (n in model) == wanted], default=None)


def last_of(model, number, wanted):
    return max([n for n in BOX if n <= number and (n in model) == wanted], default=None)


def keeper_with(model):
    """A keeper with the model's numbers, which are put in one by one but for those beyond the cells."""
    keeper = Keeper()
    if -EDGE in model:
        keeper.put((None, CELLS[0] - 1))
    if EDGE in model:
        keeper.put((CELLS[-1] + 1, None))
    for n in CELLS:
        if n in model:
            keeper.put((n, n))
    return keeper


def small_models():
    """Each choice of the cells, with and without all numbers below them and all above them."""
    below = frozenset(range(-EDGE, CELLS[0]))
    above = frozenset(range(CELLS[-1] + 1, EDGE + 1))
    return [
        frozenset(cells) | beyond
        for many in range(len(CELLS) + 1)
        for cells in combinations(CELLS, many)
        for beyond in [frozenset(), below, above, below | above]
    ]
