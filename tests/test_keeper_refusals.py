"""Keepers: what every deed and every question refuses, and that a refusal changes nothing."""

import copy
import unittest

from refusals import RefusalTest
from stretchkeeper.errors import BadKeeper, BadNumber, BadStretch, KeepError, NoSuch
from stretchkeeper.keepers import Keeper
from things import no_keepers, no_numbers, no_stretches

OF_STRETCHES = ["put", "take", "keep", "turn"]
OF_KEEPERS = ["gain", "lose", "meet", "part"]
OF_NUMBERS = ["move", "has", "below", "next_in", "next_out", "last_in", "last_out"]

SOME = [
    [], [(None, None)], [(1, 5)], [(-3, 0), (2, 2), (7, 9)], [(None, 5), (8, 8)], [(1, 1), (8, None)],
    [(None, -2), (2, None)],
]


def keeper_of_stretches(*stretches):
    keeper = Keeper()
    for stretch in stretches:
        keeper.put(stretch)
    return keeper


class KeeperRefusalsTest(RefusalTest):

    def assert_each_refuses(self, kind, names, things):
        """Of each of some keepers: each thing is refused by each name, and nothing is changed."""
        for stretches in SOME:
            keeper = keeper_of_stretches(*stretches)
            for name in names:
                for thing in things():
                    self.assert_refused(kind, getattr(keeper, name), thing)
                self.assertEqual(keeper.stretches(), stretches)

    def test_bad_stretch(self):
        self.assert_each_refuses(BadStretch, OF_STRETCHES, no_stretches)

    def test_bad_stretch_of_a_keeper(self):
        self.assert_each_refuses(BadStretch, OF_STRETCHES, lambda: [Keeper(), keeper_of_stretches((1, 5)), Keeper])

    def test_bad_number(self):
        self.assert_each_refuses(BadNumber, OF_NUMBERS, no_numbers)

    def test_bad_number_of_a_keeper(self):
        self.assert_each_refuses(BadNumber, OF_NUMBERS + ["at"], lambda: [Keeper(), Keeper])

    def test_bad_keeper(self):
        self.assert_each_refuses(BadKeeper, OF_KEEPERS, no_keepers)

    def test_bad_place(self):
        self.assert_each_refuses(BadNumber, ["at"], lambda: no_numbers() + [-1, -2, -8, -10 ** 999])

    def test_the_place_0_is_good(self):
        self.assertEqual(keeper_of_stretches((1, 5)).at(0), 1)
        self.assert_refused(NoSuch, Keeper().at, 0)


class BehindARefusalTest(unittest.TestCase):

    def refuse_all(self, keeper):
        refused = 0
        for names, things in [
            (OF_STRETCHES, no_stretches()), (OF_NUMBERS + ["at"], no_numbers()), (OF_KEEPERS, no_keepers()),
        ]:
            for name in names:
                for thing in things:
                    try:
                        getattr(keeper, name)(thing)
                    except KeepError:
                        refused += 1
        return refused

    def test_a_good_deed_goes_on(self):
        for stretches in SOME:
            with self.subTest(stretches):
                keeper, spared = keeper_of_stretches(*stretches), keeper_of_stretches(*stretches)
                self.assertGreater(self.refuse_all(keeper), 500)
                self.assertEqual(keeper.stretches(), stretches)
                for one in [keeper, spared]:
                    one.put((4, 6))
                    one.turn((0, 8))
                    one.take((3, 3))
                    one.move(2)
                    one.mirror()
                    one.part(keeper_of_stretches((-5, 5)))
                self.assertEqual(keeper.stretches(), spared.stretches())
                self.assertEqual([keeper.has(n) for n in range(-20, 20)], [spared.has(n) for n in range(-20, 20)])

    def test_a_refusal_by_one_keeper_changes_no_other_one(self):
        keeper, other = keeper_of_stretches((1, 5)), keeper_of_stretches((3, 9))
        copied = keeper.copied()
        self.refuse_all(keeper)
        self.assertEqual(other.stretches(), [(3, 9)])
        self.assertEqual(copied.stretches(), [(1, 5)])
        self.assertEqual(Keeper().stretches(), [])


class HandedInTest(unittest.TestCase):

    def hand_in(self, keeper, thing):
        """The thing is handed in wherever a thing can be."""
        for name in OF_STRETCHES + OF_NUMBERS + ["at"] + OF_KEEPERS:
            try:
                getattr(keeper, name)(thing)
            except KeepError:
                pass

    def test_nothing_is_changed(self):
        for thing in [
            [], [1, 2], [None, None], [[1, 2], [3, 4]], {}, {1: 2}, {1, 2}, bytearray(b"12"), (1, [2]), ([], {}),
            (1, 2), (None, 5), (None, None), (2, 1), 3, -3, "3", None, True,
        ]:
            with self.subTest(thing):
                before = copy.deepcopy(thing)
                self.hand_in(keeper_of_stretches((1, 5), (7, 9)), thing)
                self.assertEqual(thing, before)
                self.assertIs(type(thing), type(before))

    def test_nothing_is_used_up(self):
        thing = iter((1, 2))
        self.hand_in(Keeper(), thing)
        self.assertEqual(list(thing), [1, 2])

    def test_a_list_in_a_refused_stretch_is_not_kept(self):
        ends = [1, 5]
        keeper = keeper_of_stretches((7, 9))
        self.hand_in(keeper, ends)
        before = keeper.stretches()
        ends[0] = 3
        self.assertEqual(keeper.stretches(), before)

    def test_keepers_share_nothing(self):
        one, other = Keeper(), Keeper()
        one.put((1, 5))
        self.assertEqual(other.stretches(), [])
        self.assertEqual(Keeper().stretches(), [])


if __name__ == "__main__":
    unittest.main()
