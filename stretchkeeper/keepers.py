"""Keepers: some of all whole numbers, put in and taken out by stretches."""

from stretchkeeper.errors import BadKeeper, BadNumber, NoSuch
from stretchkeeper.lines import (
    NOTHING, combined, in_both, in_either, in_first_only, in_just_one, is_in, last_where,
    line_of, many_of, mirrored, moved, next_where, stretches_of,
)
from stretchkeeper.stretches import check_number, check_stretch, size_of


class Keeper:
    """Some of all whole numbers, none of them at first."""

    def __init__(self):
        self._line = NOTHING

    def put(self, stretch):
        """All numbers of the stretch are in."""
        self._set_against_stretch(stretch, in_either)

    def take(self, stretch):
        """None of the stretch's numbers is in."""
        self._set_against_stretch(stretch, in_first_only)

    def keep(self, stretch):
        """What does not lie in the stretch is out."""
        self._set_against_stretch(stretch, in_both)

    def turn(self, stretch):
        """Of the stretch's numbers those that were out are in, those that were in are out."""
        self._set_against_stretch(stretch, in_just_one)

    def _set_against_stretch(self, stretch, rule):
        check_stretch(stretch)
        self._line = combined(self._line, line_of(stretch), rule)

    def move(self, steps):
        """Each number n that was in is out, and n + steps is in instead."""
        check_number(steps)
        self._line = moved(self._line, steps)

    def mirror(self):
        """Each number n that was in is out, and 0 - n is in instead."""
        self._line = mirrored(self._line)

    def gain(self, other):
        """All numbers of the other keeper are in, too."""
        self._set_against_keeper(other, in_either)

    def lose(self, other):
        """None of the other keeper's numbers is in."""
        self._set_against_keeper(other, in_first_only)

    def meet(self, other):
        """What the other keeper has not is out."""
        self._set_against_keeper(other, in_both)

    def part(self, other):
        """In is what just one of both keepers had."""
        self._set_against_keeper(other, in_just_one)

    def _set_against_keeper(self, other, rule):
        check_keeper(other)
        self._line = combined(self._line, other._line, rule)

    def has(self, number):
        """Whether the number is in."""
        check_number(number)
        return is_in(self._line, number)

    def stretches(self):
        """The fewest stretches that together have just the keeper's numbers, rising."""
        return stretches_of(self._line)

    def many(self):
        """How many numbers are in, None where there is no end of them."""
        return many_of(self._line)

    def below(self, number):
        """How many of the numbers that are in are less than this one, None where there is no end of them."""
        check_number(number)
        return many_of(combined(self._line, line_of((None, number - 1)), in_both))

    def at(self, place):
        """The number that is in and below which so many are."""
        check_number(place)
        if place < 0:
            raise BadNumber("a place is a number from 0 on")
        rest = place
        for first, last in self.stretches():
            if first is None:
                raise NoSuch("below each number there is no end of those that are in")
            size = size_of((first, last))
            if size is None or rest < size:
                return first + rest
            rest = rest - size
        raise NoSuch("there are not so many numbers")

    def next_in(self, number):
        """The least number, from this one on, that is in, None where there is none."""
        check_number(number)
        return next_where(self._line, number, True)

    def next_out(self, number):
        """The least number, from this one on, that is out, None where there is none."""
        check_number(number)
        return next_where(self._line, number, False)

    def last_in(self, number):
        """The greatest number up to this one that is in, None where there is none."""
        check_number(number)
        return last_where(self._line, number, True)

    def last_out(self, number):
        """The greatest number up to this one that is out, None where there is none."""
        check_number(number)
        return last_where(self._line, number, False)

    def copied(self):
        """Another keeper with the same numbers."""
        other = Keeper()
        other._line = self._line
        return other


def check_keeper(thing):
    """Refuses what is no keeper."""
    # Not isinstance: a thing can tell it a false class or fail in being asked.
    if type(thing) is not Keeper:
        raise BadKeeper("a keeper is an object of the class Keeper")
