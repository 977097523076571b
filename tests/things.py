"""Things that the tests hand in: numbers and stretches, and what is no number, stretch, keeper or text."""

from stretchkeeper.keepers import Keeper

HUGE = 10 ** 999

# All stretches with ends from -3 to 3, or without: enough for each way in which two can lie.
SMALL = [
    (first, last)
    for first in [None, *range(-3, 4)]
    for last in [None, *range(-3, 4)]
    if first is None or last is None or first <= last
]


class Hostile:
    """A thing that fails in whatever it is asked, its class included."""

    def _fail(self, *rest):
        raise RuntimeError("a hostile thing was asked")

    __eq__ = __ne__ = __lt__ = __le__ = __gt__ = __ge__ = __hash__ = _fail
    __len__ = __iter__ = __getitem__ = __contains__ = __bool__ = __call__ = _fail
    __int__ = __index__ = __add__ = __radd__ = __sub__ = __rsub__ = __neg__ = _fail
    __str__ = __repr__ = __format__ = __getattr__ = _fail
    __class__ = property(_fail)


class HostileKind(type):
    """The class of a class that fails in being compared."""

    def __eq__(cls, other):
        raise RuntimeError("a hostile class was compared")

    __hash__ = type.__hash__


class OfHostileKind(metaclass=HostileKind):
    """A thing whose class fails in being compared."""


class Liar:
    """A thing that tells a false class and is equal to everything."""

    def __init__(self, told):
        self.told = told

    @property
    def __class__(self):
        return self.told

    def __eq__(self, other):
        return True

    __hash__ = None

    def __index__(self):
        return 3

    def __len__(self):
        return 2

    def __getitem__(self, at):
        return 3


class OddInt(int):
    """An int that answers wrongly when it is compared."""

    def __le__(self, other):
        raise RuntimeError("an odd int was compared")

    __lt__ = __gt__ = __ge__ = __le__


class OddTuple(tuple):
    """A tuple that tells a false length."""

    def __len__(self):
        return 2


class OddText(str):
    """A text that tells another text when it is split."""

    def split(self, *rest):
        return ["8"]


class LookAlike:
    """A thing with a keeper's methods that is no keeper."""

    def stretches(self):
        return [(1, 5)]

    def has(self, number):
        return True

    def copied(self):
        return Keeper()

    put = take = keep = turn = gain = lose = meet = part = move = has


class OfKeeperKind(Keeper):
    """A thing of a class made from Keeper, without what a keeper needs."""

    def __init__(self):
        pass


def endless_list():
    """A list that holds itself."""
    rows = [1]
    rows.append(rows)
    return rows


def no_numbers():
    """Things of many kinds, none of them a number; made anew at each call."""
    return [
        None, True, False, 0.0, 3.0, -2.5, float("nan"), float("inf"), 3j,
        "", "3", "number", b"", b"3", bytearray(b"3"),
        (), (3,), (1, 2), (None, None), [], [3], [1, 2], [[1, 2], [3, 4]],
        {}, {3: 3}, set(), {3}, frozenset({3}), range(3), iter([3]), endless_list(),
        object(), object, int, len, lambda: 3, Exception("3"), NotImplemented, ...,
        Hostile(), OfHostileKind(), Liar(int), Liar(bool), OddInt(3),
    ]


def no_stretches():
    """Things of many kinds, none of them a stretch; made anew at each call."""
    return [
        None, True, False, 0, 3, -3, HUGE, 0.0, 2.5, float("nan"), 3j,
        "", "1", "12", "..", "1..2", b"", b"12", bytearray(b"12"),
        [], [1], [1, 2], [None, None], [1, None], [[1, 2], [3, 4]], [(1, 2)],
        {}, {1: 2, 3: 4}, set(), {1, 2}, frozenset({1, 2}), range(2), iter((1, 2)), endless_list(),
        (), (1,), (None,), (1, 2, 3), (None, None, None), (1, 2, None, 4), ((1, 2),), ((1, 2), (3, 4)),
        (True, 2), (0, True), (False, 2), (False, True), (True, True), (True, None), (None, False),
        ("1", "2"), ("a", 2), (1, "b"), ("", None), (None, ""), (b"1", 2), ("1", 2), (1, "2"),
        (1.0, 2), (1, 2.0), (1.0, 2.0), (1.0, None), (None, 2.5), (float("-inf"), float("inf")),
        ([1], [2]), ([], None), (1, [2]), (None, (1, 2)), ((), ()), ({}, {}), (1, {}), (set(), 1),
        (1, object()), (object(), 1), (1, ...), (NotImplemented, 2), (1, endless_list()),
        (2, 1), (1, 0), (0, -1), (-1, -2), (1, -1), (HUGE, HUGE - 1), (HUGE, -HUGE), (1 - HUGE, -HUGE),
        object(), object, tuple, len, lambda: (1, 2), Exception(1, 2), NotImplemented, ...,
        Hostile(), (Hostile(), 1), (1, Hostile()), (Hostile(), None), (Hostile(), Hostile()),
        OfHostileKind(), (OfHostileKind(), 1), (None, OfHostileKind()),
        Liar(tuple), Liar(list), (Liar(int), 3), (3, Liar(int)), (Liar(int), Liar(int)), (OddInt(1), OddInt(2)),
        OddTuple((1, 2)), OddTuple((1, 2, 3)), OddTuple(),
    ]


def no_keepers():
    """Things of many kinds, none of them a keeper; made anew at each call."""
    return no_numbers() + [
        3, HUGE, "1..5", "..", [(1, 5)], ((1, 5),), (1, 5), {(1, 5)}, {"stretches": [(1, 5)]},
        Keeper, Keeper.stretches, Keeper().stretches, [Keeper()], (Keeper(),), {"keeper": Keeper()},
        LookAlike(), LookAlike, Liar(Keeper), OfKeeperKind(),
    ]


def no_texts():
    """Things of many kinds, none of them a text; made anew at each call."""
    things = [thing for thing in no_numbers() if type(thing) is not str]
    return things + [
        3, 0, HUGE, b"1..5", b"", bytearray(b"8"), ["1..5"], ["1..5", "8"], [], ("8",), {"8": "8"}, {"8"},
        [(1, 5)], (1, 5), str, str.split, Keeper, Keeper(), Liar(str), OddText("8"), OddText(""), OddText("8 9"),
    ]


def named(thing):
    """The thing's name in a failing test, of things too that cannot be shown."""
    try:
        return repr(thing)[:60]
    except RuntimeError:
        return "a thing that cannot be shown"
