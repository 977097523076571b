"""Stretches: what is one, which numbers it has, how many, and what two of them share."""

import copy
import inspect
import pickle
import unittest

from stretchkeeper import stretches
from stretchkeeper.errors import BadNumber, BadStretch, KeepError
from stretchkeeper.stretches import has_number, is_stretch, shared, size_of
from refusals import RefusalTest
from things import HUGE, SMALL, Hostile, Liar, named, no_numbers, no_stretches

# Wider than the small stretches on both sides, so that it tells a missing end from one.
WINDOW = range(-6, 7)


def numbers_of(stretch):
    """The numbers of the window that a stretch has, found without the program."""
    first, last = stretch
    from_first = [n for n in WINDOW if first is None or n >= first]
    return {n for n in from_first if last is None or n <= last}


class InterfaceTest(unittest.TestCase):

    def test_names_and_arguments(self):
        arguments = {
            "is_stretch": ["thing"],
            "has_number": ["stretch", "number"],
            "size_of": ["stretch"],
            "shared": ["one", "other"],
        }
        for name, names in arguments.items():
            with self.subTest(name):
                function = getattr(stretches, name)
                self.assertEqual(list(inspect.signature(function).parameters), names)
                self.assertEqual(function.__module__, "stretchkeeper.stretches")

    def test_arguments_by_name(self):
        self.assertIs(is_stretch(thing=(1, 2)), True)
        self.assertIs(has_number(number=1, stretch=(1, 2)), True)
        self.assertEqual(size_of(stretch=(1, 2)), 2)
        self.assertEqual(shared(other=(2, 3), one=(1, 2)), (2, 2))


class IsStretchTest(unittest.TestCase):

    def test_stretches(self):
        for thing in SMALL + [
            (1, 5), (-5, -1), (-5, 5), (0, 0), (7, 7), (-7, -7),
            (None, 5), (None, -5), (None, 0), (5, None), (-5, None), (0, None), (None, None),
            (-HUGE, HUGE), (HUGE, HUGE), (HUGE, HUGE + 1), (-HUGE - 1, -HUGE),
            (None, HUGE), (None, -HUGE), (HUGE, None), (-HUGE, None), (2 ** 63, 2 ** 64),
        ]:
            with self.subTest(thing):
                self.assertIs(is_stretch(thing), True)

    def test_all_else(self):
        for thing in no_stretches():
            with self.subTest(named(thing)):
                self.assertIs(is_stretch(thing), False)


class HasNumberTest(RefusalTest):

    def test_small_stretches(self):
        for stretch in SMALL:
            for number in WINDOW:
                with self.subTest(stretch=stretch, number=number):
                    self.assertIs(has_number(stretch, number), number in numbers_of(stretch))

    def test_ends_and_beside_them(self):
        self.assertIs(has_number((-3, 5), -4), False)
        self.assertIs(has_number((-3, 5), -3), True)
        self.assertIs(has_number((-3, 5), 5), True)
        self.assertIs(has_number((-3, 5), 6), False)
        self.assertIs(has_number((8, 8), 7), False)
        self.assertIs(has_number((8, 8), 8), True)
        self.assertIs(has_number((8, 8), 9), False)

    def test_far_off_and_very_large(self):
        self.assertIs(has_number((-3, 5), HUGE), False)
        self.assertIs(has_number((-3, 5), -HUGE), False)
        self.assertIs(has_number((-HUGE, HUGE), 0), True)
        self.assertIs(has_number((-HUGE, HUGE), HUGE), True)
        self.assertIs(has_number((-HUGE, HUGE), HUGE + 1), False)
        self.assertIs(has_number((-HUGE, HUGE), -HUGE), True)
        self.assertIs(has_number((-HUGE, HUGE), -HUGE - 1), False)
        # Numbers that would be one and the same as floats.
        self.assertIs(has_number((2 ** 60, 2 ** 60), 2 ** 60 + 1), False)

    def test_missing_ends(self):
        for number, below, above in [
            (-HUGE, True, False), (-1, True, False), (0, True, False), (4, True, False),
            (5, True, True), (6, False, True), (HUGE, False, True),
        ]:
            with self.subTest(number):
                self.assertIs(has_number((None, 5), number), below)
                self.assertIs(has_number((5, None), number), above)
                self.assertIs(has_number((None, None), number), True)

    def test_no_stretch(self):
        for thing in no_stretches():
            self.assert_refused(BadStretch, has_number, thing, 3)

    def test_no_number(self):
        for stretch in [(1, 5), (3, 3), (None, 5), (1, None), (None, None), (0, 1), (HUGE, None)]:
            for thing in no_numbers():
                self.assert_refused(BadNumber, has_number, stretch, thing)

    def test_a_stretch_is_no_number(self):
        self.assert_refused(BadNumber, has_number, (1, 2), (1, 2))

    def test_the_first_argument_is_refused_first(self):
        for stretch in no_stretches():
            for number in [None, True, "3", [3], (1, 2), Hostile(), Liar(int)]:
                self.assert_refused(BadStretch, has_number, stretch, number)
        for number in no_numbers():
            for stretch in [None, 3, [1, 2], (2, 1), (True, 2), Hostile(), Liar(tuple)]:
                self.assert_refused(BadStretch, has_number, stretch, number)


class SizeOfTest(RefusalTest):

    def test_both_ends(self):
        for stretch, size in [
            ((8, 8), 1), ((0, 0), 1), ((-8, -8), 1), ((1, 2), 2), ((-3, 5), 9), ((-5, -3), 3),
            ((0, 9), 10), ((-HUGE, HUGE), 2 * HUGE + 1), ((HUGE, HUGE), 1), ((1, HUGE), HUGE),
            ((2 ** 60, 2 ** 61), 2 ** 60 + 1),
        ]:
            with self.subTest(stretch):
                self.assertIs(type(size_of(stretch)), int)
                self.assertEqual(size_of(stretch), size)

    def test_small_stretches(self):
        for stretch in SMALL:
            with self.subTest(stretch):
                size = None if None in stretch else len(numbers_of(stretch))
                self.assertEqual(size_of(stretch), size)

    def test_missing_ends(self):
        for stretch in [(None, 0), (None, 5), (None, -HUGE), (0, None), (5, None), (HUGE, None), (None, None)]:
            with self.subTest(stretch):
                self.assertIsNone(size_of(stretch))

    def test_no_stretch(self):
        for thing in no_stretches():
            self.assert_refused(BadStretch, size_of, thing)


class SharedTest(RefusalTest):

    def assert_shared(self, one, other, both):
        for told in [shared(one, other), shared(other, one)]:
            self.assertEqual(told, both)
            if both is not None:
                self.assertIs(type(told), tuple)

    def test_small_stretches(self):
        for one in SMALL:
            for other in SMALL:
                with self.subTest(one=one, other=other):
                    numbers = numbers_of(one) & numbers_of(other)
                    told = shared(one, other)
                    if told is None:
                        self.assertEqual(numbers, set())
                    else:
                        self.assertIs(is_stretch(told), True)
                        self.assertEqual(numbers_of(told), numbers)

    def test_both_ends(self):
        self.assert_shared((1, 5), (3, 9), (3, 5))
        self.assert_shared((1, 9), (3, 5), (3, 5))
        self.assert_shared((1, 9), (1, 5), (1, 5))
        self.assert_shared((1, 9), (5, 9), (5, 9))
        self.assert_shared((1, 5), (1, 5), (1, 5))
        self.assert_shared((0, 0), (0, 0), (0, 0))
        self.assert_shared((1, 5), (5, 9), (5, 5))
        self.assert_shared((1, 5), (3, 3), (3, 3))
        self.assert_shared((1, 5), (6, 9), None)
        self.assert_shared((1, 5), (7, 9), None)
        self.assert_shared((-9, -5), (5, 9), None)
        self.assert_shared((4, 4), (5, 5), None)
        self.assert_shared((-HUGE, 0), (0, HUGE), (0, 0))
        self.assert_shared((-HUGE, HUGE), (1 - HUGE, HUGE + 1), (1 - HUGE, HUGE))
        self.assert_shared((HUGE, HUGE), (HUGE + 1, HUGE + 1), None)

    def test_missing_ends(self):
        self.assert_shared((None, None), (None, None), (None, None))
        self.assert_shared((None, None), (1, 5), (1, 5))
        self.assert_shared((None, None), (None, 5), (None, 5))
        self.assert_shared((None, None), (1, None), (1, None))
        self.assert_shared((None, 5), (None, 3), (None, 3))
        self.assert_shared((None, 5), (None, 5), (None, 5))
        self.assert_shared((1, None), (3, None), (3, None))
        self.assert_shared((1, None), (1, None), (1, None))
        self.assert_shared((None, 5), (1, None), (1, 5))
        self.assert_shared((None, 5), (5, None), (5, 5))
        self.assert_shared((None, 5), (6, None), None)
        self.assert_shared((None, 5), (9, None), None)
        self.assert_shared((None, 0), (0, None), (0, 0))
        self.assert_shared((None, 5), (1, 9), (1, 5))
        self.assert_shared((None, 5), (6, 9), None)
        self.assert_shared((None, -1), (0, 0), None)
        self.assert_shared((5, None), (1, 9), (5, 9))
        self.assert_shared((5, None), (1, 4), None)
        self.assert_shared((1, None), (0, 0), None)
        self.assert_shared((None, HUGE), (-HUGE, None), (-HUGE, HUGE))

    def test_no_stretch(self):
        for thing in no_stretches():
            for stretch in [(1, 5), (8, 8), (None, 5), (1, None), (None, None)]:
                self.assert_refused(BadStretch, shared, thing, stretch)
                self.assert_refused(BadStretch, shared, stretch, thing)

    def test_no_stretch_twice(self):
        for thing in no_stretches():
            self.assert_refused(BadStretch, shared, thing, thing)
            self.assert_refused(BadStretch, shared, thing, Hostile())
            self.assert_refused(BadStretch, shared, Hostile(), thing)


class HandedInTest(unittest.TestCase):

    def call_all(self, thing):
        """Each function, with the thing in each place."""
        is_stretch(thing)
        for call, handed in [
            (has_number, (thing, 3)), (has_number, ((1, 5), thing)),
            (size_of, (thing,)), (shared, (thing, (1, 5))), (shared, ((1, 5), thing)),
        ]:
            try:
                call(*handed)
            except KeepError:
                pass

    def test_nothing_is_changed(self):
        for thing in [
            [], [1, 2], [None, None], [[1, 2], [3, 4]], {}, {1: 2}, {1, 2}, bytearray(b"12"),
            (1, [2]), ([], {}), (1, 2), (None, 5), (2, 1), 3, "3", None,
        ]:
            with self.subTest(thing):
                before = copy.deepcopy(thing)
                self.call_all(thing)
                self.assertEqual(thing, before)
                self.assertIs(type(thing), type(before))

    def test_nothing_is_used_up(self):
        thing = iter((1, 2))
        self.call_all(thing)
        self.assertEqual(list(thing), [1, 2])

    def test_a_refusal_changes_no_later_answer(self):
        def answers():
            return [
                [is_stretch((1, 5)), is_stretch([1, 5])],
                [has_number((1, 5), 3), has_number((1, None), 0)],
                [size_of((1, 5)), size_of((None, 5))],
                [shared((1, 5), (3, 9)), shared((1, 5), (6, 9))],
            ]
        before = answers()
        for thing in no_stretches() + no_numbers():
            self.call_all(thing)
        self.assertEqual(answers(), before)

    def test_what_is_shared_is_told_the_same_again(self):
        one, other = (1, 5), (3, 9)
        first = shared(one, other)
        shared((None, None), (7, None))
        self.assertEqual(first, (3, 5))
        self.assertEqual(shared(one, other), (3, 5))
        self.assertEqual((one, other), ((1, 5), (3, 9)))

    def test_what_is_told_is_not_what_was_handed_in(self):
        # Read from bytes, so that no two of them are one and the same constant.
        one = pickle.loads(pickle.dumps((1, 5)))
        other = pickle.loads(pickle.dumps((0, 9)))
        for told in [shared(one, other), shared(other, one), shared(one, one)]:
            self.assertEqual(told, (1, 5))
            self.assertIsNot(told, one)


if __name__ == "__main__":
    unittest.main()
