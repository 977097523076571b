"""Keepers: what is in and what is out behind each deed, told by stretches."""

import inspect
import random
import unittest

import models
from stretchkeeper import keepers
from stretchkeeper.keepers import Keeper
from things import HUGE, SMALL

NONE = []
ALL = [(None, None)]


def keeper_of_stretches(*stretches):
    keeper = Keeper()
    for stretch in stretches:
        keeper.put(stretch)
    return keeper


class DeedTest(unittest.TestCase):

    def assert_has(self, keeper, stretches, why=None):
        """The keeper has just these stretches, of the kinds that the document names."""
        told = keeper.stretches()
        self.assertEqual(told, stretches, why)
        self.assertIs(type(told), list)
        for stretch in told:
            self.assertIs(type(stretch), tuple)
            for end in stretch:
                self.assertIn(type(end), (int, type(None)))

    def assert_deed(self, before, deed, stretch, behind):
        """A keeper with the stretches before has, behind the deed, those behind."""
        with self.subTest(before=before, deed=deed, stretch=stretch):
            keeper = keeper_of_stretches(*before)
            self.assertIsNone(getattr(keeper, deed)(stretch))
            self.assert_has(keeper, behind)


class InterfaceTest(unittest.TestCase):

    def test_names_and_arguments(self):
        arguments = {
            "put": ["stretch"], "take": ["stretch"], "keep": ["stretch"], "turn": ["stretch"],
            "move": ["steps"], "mirror": [],
            "gain": ["other"], "lose": ["other"], "meet": ["other"], "part": ["other"],
            "has": ["number"], "stretches": [], "many": [], "below": ["number"], "at": ["place"],
            "next_in": ["number"], "next_out": ["number"], "last_in": ["number"], "last_out": ["number"],
            "copied": [],
        }
        self.assertEqual(Keeper.__module__, "stretchkeeper.keepers")
        self.assertIs(keepers.Keeper, Keeper)
        self.assertEqual(list(inspect.signature(Keeper).parameters), [])
        for name, names in arguments.items():
            with self.subTest(name):
                method = Keeper.__dict__[name]
                self.assertTrue(inspect.isfunction(method))
                self.assertEqual(list(inspect.signature(method).parameters), ["self"] + names)

    def test_arguments_by_name(self):
        keeper = Keeper()
        keeper.put(stretch=(1, 9))
        keeper.take(stretch=(5, 5))
        keeper.keep(stretch=(0, 8))
        keeper.turn(stretch=(8, 9))
        keeper.move(steps=1)
        self.assertEqual(keeper.stretches(), [(2, 5), (7, 8), (10, 10)])
        for deed in ["gain", "lose", "part"]:
            getattr(keeper, deed)(other=Keeper())
        keeper.meet(other=keeper)
        self.assertEqual(keeper.stretches(), [(2, 5), (7, 8), (10, 10)])
        self.assertIs(keeper.has(number=2), True)
        self.assertEqual(keeper.below(number=6), 4)
        self.assertEqual(keeper.at(place=4), 7)
        self.assertEqual(keeper.next_in(number=6), 7)
        self.assertEqual(keeper.next_out(number=7), 9)
        self.assertEqual(keeper.last_in(number=6), 5)
        self.assertEqual(keeper.last_out(number=5), 1)


class StretchDeedsTest(DeedTest):

    def test_without_numbers_at_first(self):
        self.assert_has(Keeper(), NONE)

    def test_put(self):
        self.assert_deed([], "put", (1, 5), [(1, 5)])
        self.assert_deed([], "put", (8, 8), [(8, 8)])
        self.assert_deed([], "put", (None, 5), [(None, 5)])
        self.assert_deed([], "put", (5, None), [(5, None)])
        self.assert_deed([], "put", (None, None), ALL)
        self.assert_deed([(1, 5)], "put", (1, 5), [(1, 5)])
        self.assert_deed([(1, 5)], "put", (3, 9), [(1, 9)])
        self.assert_deed([(3, 9)], "put", (1, 5), [(1, 9)])
        self.assert_deed([(1, 9)], "put", (3, 5), [(1, 9)])
        self.assert_deed([(3, 5)], "put", (1, 9), [(1, 9)])
        self.assert_deed([(1, 5)], "put", (5, 9), [(1, 9)])
        self.assert_deed([(1, 5)], "put", (6, 9), [(1, 9)])
        self.assert_deed([(6, 9)], "put", (1, 5), [(1, 9)])
        self.assert_deed([(1, 5)], "put", (7, 9), [(1, 5), (7, 9)])
        self.assert_deed([(7, 9)], "put", (1, 5), [(1, 5), (7, 9)])
        self.assert_deed([(1, 5), (7, 9)], "put", (6, 6), [(1, 9)])
        self.assert_deed([(1, 2), (4, 5), (7, 8), (10, 11)], "put", (3, 8), [(1, 8), (10, 11)])
        self.assert_deed([(1, 2), (9, 10)], "put", (4, 7), [(1, 2), (4, 7), (9, 10)])
        self.assert_deed([(1, 5)], "put", (None, 0), [(None, 5)])
        self.assert_deed([(1, 5)], "put", (None, -1), [(None, -1), (1, 5)])
        self.assert_deed([(1, 5)], "put", (6, None), [(1, None)])
        self.assert_deed([(None, 5)], "put", (6, None), ALL)
        self.assert_deed([(None, 5)], "put", (7, None), [(None, 5), (7, None)])
        self.assert_deed([(None, 5), (7, None)], "put", (6, 6), ALL)
        self.assert_deed([(None, None)], "put", (1, 5), ALL)
        self.assert_deed([(1, 2), (4, 5)], "put", (None, None), ALL)

    def test_take(self):
        self.assert_deed([], "take", (1, 5), NONE)
        self.assert_deed([], "take", (None, None), NONE)
        self.assert_deed([(1, 5)], "take", (1, 5), NONE)
        self.assert_deed([(1, 5)], "take", (0, 6), NONE)
        self.assert_deed([(1, 5)], "take", (3, 9), [(1, 2)])
        self.assert_deed([(1, 5)], "take", (-3, 3), [(4, 5)])
        self.assert_deed([(1, 5)], "take", (3, 3), [(1, 2), (4, 5)])
        self.assert_deed([(1, 5)], "take", (1, 1), [(2, 5)])
        self.assert_deed([(1, 5)], "take", (5, 5), [(1, 4)])
        self.assert_deed([(1, 5)], "take", (6, 9), [(1, 5)])
        self.assert_deed([(1, 5)], "take", (-3, 0), [(1, 5)])
        self.assert_deed([(1, 5), (7, 9)], "take", (5, 7), [(1, 4), (8, 9)])
        self.assert_deed([(1, 5), (7, 9)], "take", (6, 6), [(1, 5), (7, 9)])
        self.assert_deed([(1, 5)], "take", (None, 3), [(4, 5)])
        self.assert_deed([(1, 5)], "take", (3, None), [(1, 2)])
        self.assert_deed([(1, 5)], "take", (None, None), NONE)
        self.assert_deed([(None, None)], "take", (1, 5), [(None, 0), (6, None)])
        self.assert_deed([(None, None)], "take", (0, 0), [(None, -1), (1, None)])
        self.assert_deed([(None, None)], "take", (None, 5), [(6, None)])
        self.assert_deed([(None, None)], "take", (5, None), [(None, 4)])
        self.assert_deed([(None, None)], "take", (None, None), NONE)
        self.assert_deed([(None, 5)], "take", (None, 5), NONE)
        self.assert_deed([(5, None)], "take", (6, None), [(5, 5)])

    def test_keep(self):
        self.assert_deed([], "keep", (1, 5), NONE)
        self.assert_deed([(1, 5)], "keep", (1, 5), [(1, 5)])
        self.assert_deed([(1, 5)], "keep", (3, 9), [(3, 5)])
        self.assert_deed([(1, 5)], "keep", (2, 4), [(2, 4)])
        self.assert_deed([(2, 4)], "keep", (1, 5), [(2, 4)])
        self.assert_deed([(1, 5)], "keep", (5, 9), [(5, 5)])
        self.assert_deed([(1, 5)], "keep", (6, 9), NONE)
        self.assert_deed([(1, 5), (7, 9)], "keep", (6, 6), NONE)
        self.assert_deed([(1, 5), (7, 9)], "keep", (5, 7), [(5, 5), (7, 7)])
        self.assert_deed([(1, 5), (7, 9)], "keep", (None, None), [(1, 5), (7, 9)])
        self.assert_deed([(1, 5), (7, 9)], "keep", (None, 7), [(1, 5), (7, 7)])
        self.assert_deed([(1, 5), (7, 9)], "keep", (5, None), [(5, 5), (7, 9)])
        self.assert_deed([(None, None)], "keep", (1, 5), [(1, 5)])
        self.assert_deed([(None, None)], "keep", (None, 5), [(None, 5)])
        self.assert_deed([(None, 5)], "keep", (5, None), [(5, 5)])
        self.assert_deed([(None, 5)], "keep", (6, None), NONE)
        self.assert_deed([(5, None)], "keep", (None, 9), [(5, 9)])

    def test_turn(self):
        self.assert_deed([], "turn", (1, 5), [(1, 5)])
        self.assert_deed([], "turn", (None, None), ALL)
        self.assert_deed([(1, 5)], "turn", (1, 5), NONE)
        self.assert_deed([(1, 5)], "turn", (3, 9), [(1, 2), (6, 9)])
        self.assert_deed([(1, 9)], "turn", (3, 5), [(1, 2), (6, 9)])
        self.assert_deed([(3, 5)], "turn", (1, 9), [(1, 2), (6, 9)])
        self.assert_deed([(1, 5)], "turn", (5, 9), [(1, 4), (6, 9)])
        self.assert_deed([(1, 5)], "turn", (6, 9), [(1, 9)])
        self.assert_deed([(1, 5)], "turn", (7, 9), [(1, 5), (7, 9)])
        self.assert_deed([(1, 5)], "turn", (None, None), [(None, 0), (6, None)])
        self.assert_deed([(1, 5)], "turn", (None, 3), [(None, 0), (4, 5)])
        self.assert_deed([(1, 5)], "turn", (3, None), [(1, 2), (6, None)])
        self.assert_deed([(None, None)], "turn", (8, 8), [(None, 7), (9, None)])
        self.assert_deed([(None, None)], "turn", (None, None), NONE)
        self.assert_deed([(1, 2), (4, 5)], "turn", (1, 5), [(3, 3)])

    def test_each_deed_on_each_small_keeper(self):
        for model in models.small_models():
            for stretch in SMALL:
                for deed, asked_for in models.STRETCH_DEEDS.items():
                    keeper = models.keeper_with(model)
                    getattr(keeper, deed)(stretch)
                    behind = models.stretches_of(asked_for(model, stretch))
                    self.assert_has(keeper, behind, (models.stretches_of(model), deed, stretch))

    def test_turn_twice_changes_nothing(self):
        for model in models.small_models():
            for stretch in SMALL:
                keeper = models.keeper_with(model)
                keeper.turn(stretch)
                keeper.turn(stretch)
                self.assert_has(keeper, models.stretches_of(model), stretch)

    def test_a_good_deed_twice_does_no_more_than_once(self):
        for deed in ["put", "take", "keep"]:
            for stretch in [(1, 5), (0, 9), (5, 5), (None, 3), (3, None), (None, None)]:
                with self.subTest(deed, stretch=stretch):
                    keeper = keeper_of_stretches((1, 5), (7, 9))
                    getattr(keeper, deed)(stretch)
                    once = keeper.stretches()
                    getattr(keeper, deed)(stretch)
                    self.assert_has(keeper, once)

    def test_very_large_numbers(self):
        keeper = keeper_of_stretches((-HUGE, HUGE))
        keeper.take((1 - HUGE, HUGE - 1))
        self.assert_has(keeper, [(-HUGE, -HUGE), (HUGE, HUGE)])
        keeper.put((HUGE + 1, 2 * HUGE))
        self.assert_has(keeper, [(-HUGE, -HUGE), (HUGE, 2 * HUGE)])
        keeper.turn((None, HUGE))
        self.assert_has(keeper, [(None, -HUGE - 1), (1 - HUGE, HUGE - 1), (HUGE + 1, 2 * HUGE)])
        keeper.keep((-HUGE - 1, HUGE + 1))
        self.assert_has(keeper, [(-HUGE - 1, -HUGE - 1), (1 - HUGE, HUGE - 1), (HUGE + 1, HUGE + 1)])

    def test_dozens_of_stretches(self):
        apart = [(10 * k, 10 * k + 8) for k in range(-40, 40)]
        keeper = keeper_of_stretches(*apart[::2], *apart[::-2])
        self.assert_has(keeper, apart)
        keeper.take((-5, 5))
        self.assert_has(keeper, apart[:39] + [(-10, -6), (6, 8)] + apart[41:])
        keeper.put((-6, 6))
        self.assert_has(keeper, apart[:39] + [(-10, 8)] + apart[41:])
        for k in range(-40, 40):
            keeper.put((10 * k + 9, 10 * k + 9))
        self.assert_has(keeper, [(-400, 399)])


class MoveTest(DeedTest):

    def test_move(self):
        for stretches, steps, behind in [
            ([], 5, []), ([(1, 5)], 3, [(4, 8)]), ([(1, 5)], -3, [(-2, 2)]), ([(1, 5)], 0, [(1, 5)]),
            ([(1, 5), (7, 7)], 10, [(11, 15), (17, 17)]), ([(None, 5)], 2, [(None, 7)]),
            ([(5, None)], -9, [(-4, None)]), ([(None, None)], 7, [(None, None)]),
            ([(None, -1), (1, None)], -1, [(None, -2), (0, None)]), ([(0, 0)], HUGE, [(HUGE, HUGE)]),
            ([(1, 2), (4, 5)], -HUGE, [(1 - HUGE, 2 - HUGE), (4 - HUGE, 5 - HUGE)]),
        ]:
            with self.subTest(stretches, steps=steps):
                keeper = keeper_of_stretches(*stretches)
                self.assertIsNone(keeper.move(steps))
                self.assert_has(keeper, behind)

    def test_each_small_keeper_there_and_back(self):
        for model in models.small_models():
            for steps in [-7, -2, -1, 0, 1, 3]:
                keeper = models.keeper_with(model)
                keeper.move(steps)
                self.assert_has(keeper, models.stretches_of(models.moved(model, steps)), steps)
                keeper.move(-steps)
                self.assert_has(keeper, models.stretches_of(model), steps)


class MirrorTest(DeedTest):

    def test_mirror(self):
        for stretches, behind in [
            ([], []), ([(1, 5)], [(-5, -1)]), ([(-5, -1)], [(1, 5)]), ([(0, 0)], [(0, 0)]), ([(8, 8)], [(-8, -8)]),
            ([(-3, 5)], [(-5, 3)]), ([(1, 5), (7, 9)], [(-9, -7), (-5, -1)]), ([(None, 5)], [(-5, None)]),
            ([(5, None)], [(None, -5)]), ([(None, None)], [(None, None)]),
            ([(None, -4), (1, 2)], [(-2, -1), (4, None)]), ([(None, -4), (1, None)], [(None, -1), (4, None)]),
            ([(-1, HUGE)], [(-HUGE, 1)]),
        ]:
            with self.subTest(stretches):
                keeper = keeper_of_stretches(*stretches)
                self.assertIsNone(keeper.mirror())
                self.assert_has(keeper, behind)

    def test_each_small_keeper_twice(self):
        for model in models.small_models():
            keeper = models.keeper_with(model)
            keeper.mirror()
            self.assert_has(keeper, models.stretches_of(models.mirrored(model)))
            keeper.mirror()
            self.assert_has(keeper, models.stretches_of(model))


class KeeperDeedsTest(DeedTest):

    def test_each_deed(self):
        for before, other, behind in [
            ([(1, 5)], [(3, 9)], {"gain": [(1, 9)], "lose": [(1, 2)], "meet": [(3, 5)], "part": [(1, 2), (6, 9)]}),
            ([(1, 5)], [(6, 9)], {"gain": [(1, 9)], "lose": [(1, 5)], "meet": [], "part": [(1, 9)]}),
            ([(1, 5)], [], {"gain": [(1, 5)], "lose": [(1, 5)], "meet": [], "part": [(1, 5)]}),
            ([], [(1, 5)], {"gain": [(1, 5)], "lose": [], "meet": [], "part": [(1, 5)]}),
            ([], [], {"gain": [], "lose": [], "meet": [], "part": []}),
            ([(1, 5)], ALL, {"gain": ALL, "lose": [], "meet": [(1, 5)], "part": [(None, 0), (6, None)]}),
            (ALL, [(1, 5)], {
                "gain": ALL, "lose": [(None, 0), (6, None)], "meet": [(1, 5)], "part": [(None, 0), (6, None)],
            }),
            (ALL, ALL, {"gain": ALL, "lose": [], "meet": ALL, "part": []}),
            ([(None, 5)], [(3, None)], {
                "gain": ALL, "lose": [(None, 2)], "meet": [(3, 5)], "part": [(None, 2), (6, None)],
            }),
            ([(None, 2), (8, None)], [(1, 9)], {
                "gain": ALL, "lose": [(None, 0), (10, None)], "meet": [(1, 2), (8, 9)],
                "part": [(None, 0), (3, 7), (10, None)],
            }),
            ([(-HUGE, 0)], [(0, HUGE)], {
                "gain": [(-HUGE, HUGE)], "lose": [(-HUGE, -1)], "meet": [(0, 0)], "part": [(-HUGE, -1), (1, HUGE)],
            }),
        ]:
            for deed in behind:
                with self.subTest(deed, before=before, other=other):
                    keeper, another = keeper_of_stretches(*before), keeper_of_stretches(*other)
                    self.assertIsNone(getattr(keeper, deed)(another))
                    self.assert_has(keeper, behind[deed])
                    self.assert_has(another, other)

    def test_each_deed_on_each_two_small_keepers(self):
        told = {model: models.stretches_of(model) for model in models.small_models()}
        made = {model: models.keeper_with(model) for model in told}
        for model in told:
            for other in told:
                for deed, asked_for in models.KEEPER_DEEDS.items():
                    keeper = models.keeper_with(model)
                    getattr(keeper, deed)(made[other])
                    behind = told[asked_for(model, other)]
                    self.assertEqual(keeper.stretches(), behind, (told[model], deed, told[other]))
        for model, keeper in made.items():
            self.assert_has(keeper, told[model])

    def test_with_the_keeper_itself(self):
        for model in models.small_models():
            for deed, asked_for in models.KEEPER_DEEDS.items():
                keeper = models.keeper_with(model)
                self.assertIsNone(getattr(keeper, deed)(keeper))
                self.assert_has(keeper, models.stretches_of(asked_for(model, model)), deed)

    def test_each_goes_its_own_way_afterwards(self):
        for deed in models.KEEPER_DEEDS:
            for stretches in [[], [(1, 5)], [(None, 5), (7, None)], ALL]:
                with self.subTest(deed, stretches=stretches):
                    keeper, other = keeper_of_stretches(*stretches), keeper_of_stretches(*stretches)
                    getattr(keeper, deed)(other)
                    behind = keeper.stretches()
                    other.turn((3, 4))
                    other.move(2)
                    other.mirror()
                    self.assert_has(keeper, behind)
                    told = other.stretches()
                    keeper.turn((4, 6))
                    keeper.move(-1)
                    keeper.mirror()
                    self.assert_has(other, told)

    def test_dozens_of_stretches(self):
        even, odd = Keeper(), Keeper()
        for n in range(-100, 100, 2):
            even.put((n, n))
            odd.put((n + 1, n + 1))
        keeper = even.copied()
        keeper.meet(odd)
        self.assert_has(keeper, NONE)
        keeper.part(even)
        self.assert_has(keeper, [(n, n) for n in range(-100, 100, 2)])
        keeper.gain(odd)
        self.assert_has(keeper, [(-100, 99)])
        keeper.lose(even)
        self.assert_has(keeper, [(n, n) for n in range(-99, 101, 2)])


class RowsOfDeedsTest(DeedTest):

    def one_deed(self, chance, keeper, model):
        """Does one deed on the keeper; tells what the model is behind it."""
        kind = chance.randrange(10)
        if kind < 6:
            deed, stretch = chance.choice(sorted(models.STRETCH_DEEDS)), chance.choice(SMALL)
            self.assertIsNone(getattr(keeper, deed)(stretch))
            return models.STRETCH_DEEDS[deed](model, stretch)
        if kind < 8:
            deed, other = chance.choice(sorted(models.KEEPER_DEEDS)), chance.choice(models.small_models())
            self.assertIsNone(getattr(keeper, deed)(models.keeper_with(other)))
            return models.KEEPER_DEEDS[deed](model, other)
        if kind == 8:
            steps = chance.randrange(-3, 4)
            self.assertIsNone(keeper.move(steps))
            return models.moved(model, steps)
        self.assertIsNone(keeper.mirror())
        return models.mirrored(model)

    def test_rows_of_deeds(self):
        # The same rows at each run: the seed is given.
        chance = random.Random(20261120)
        for _ in range(150):
            keeper, model = Keeper(), set()
            for _ in range(12):
                model = self.one_deed(chance, keeper, model)
                self.assert_has(keeper, models.stretches_of(model))
                self.assert_has(keeper, models.stretches_of(model))


if __name__ == "__main__":
    unittest.main()
