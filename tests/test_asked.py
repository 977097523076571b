"""Keepers: what they tell when they are asked."""

import unittest

import models
from refusals import RefusalTest
from stretchkeeper.errors import NoSuch
from stretchkeeper.keepers import Keeper
from things import HUGE

# Beside, at and between all ends of the small keepers, and some beyond them.
ASKED = range(-6, 7)


def keeper_of_stretches(*stretches):
    keeper = Keeper()
    for stretch in stretches:
        keeper.put(stretch)
    return keeper


def told_at(keeper, place):
    """None where there is no such number."""
    try:
        return keeper.at(place)
    except NoSuch:
        return None


class AskedTest(unittest.TestCase):

    def setUp(self):
        self.nothing = Keeper()
        self.everything = keeper_of_stretches((None, None))
        self.two = keeper_of_stretches((-3, 5), (8, 8))
        self.endless = keeper_of_stretches((None, -4), (0, 2), (7, None))
        self.upwards = keeper_of_stretches((1, 3), (6, None))
        self.downwards = keeper_of_stretches((None, 3), (6, 7))
        self.huge = keeper_of_stretches((-HUGE, -1), (HUGE, 2 * HUGE))

    def assert_tells(self, question, cases):
        for keeper, asked, told in cases:
            with self.subTest(question, stretches=keeper.stretches(), asked=asked):
                answer = getattr(keeper, question)(asked)
                self.assertEqual(answer, told)
                self.assertIs(type(answer), type(told))

    def test_has(self):
        self.assert_tells("has", [
            (self.nothing, 0, False), (self.nothing, HUGE, False), (self.nothing, -HUGE, False),
            (self.everything, 0, True), (self.everything, HUGE, True), (self.everything, -HUGE, True),
            (self.two, -HUGE, False), (self.two, -4, False), (self.two, -3, True), (self.two, 0, True),
            (self.two, 5, True), (self.two, 6, False), (self.two, 7, False), (self.two, 8, True),
            (self.two, 9, False), (self.two, HUGE, False),
            (self.endless, -HUGE, True), (self.endless, -4, True), (self.endless, -3, False),
            (self.endless, -1, False), (self.endless, 0, True), (self.endless, 2, True), (self.endless, 3, False),
            (self.endless, 6, False), (self.endless, 7, True), (self.endless, HUGE, True),
            (self.huge, -HUGE - 1, False), (self.huge, -HUGE, True), (self.huge, 0, False),
            (self.huge, HUGE - 1, False), (self.huge, HUGE, True), (self.huge, 2 * HUGE, True),
            (self.huge, 2 * HUGE + 1, False),
        ])

    def test_many(self):
        for keeper, told in [
            (self.nothing, 0), (self.everything, None), (self.two, 10), (self.endless, None), (self.upwards, None),
            (self.downwards, None), (self.huge, 2 * HUGE + 1), (keeper_of_stretches((8, 8)), 1),
            (keeper_of_stretches((None, 0)), None), (keeper_of_stretches((0, None)), None),
            (keeper_of_stretches((1, 5), (3, 9)), 9),
        ]:
            with self.subTest(keeper.stretches()):
                self.assertEqual(keeper.many(), told)
                self.assertIs(type(keeper.many()), type(told))

    def test_below(self):
        self.assert_tells("below", [
            (self.nothing, 0, 0), (self.nothing, HUGE, 0), (self.nothing, -HUGE, 0),
            (self.everything, 0, None), (self.everything, -HUGE, None), (self.everything, HUGE, None),
            (self.two, -HUGE, 0), (self.two, -3, 0), (self.two, -2, 1), (self.two, 5, 8), (self.two, 6, 9),
            (self.two, 7, 9), (self.two, 8, 9), (self.two, 9, 10), (self.two, HUGE, 10),
            (self.endless, -HUGE, None), (self.endless, -3, None), (self.endless, 1, None), (self.endless, HUGE, None),
            (self.upwards, -HUGE, 0), (self.upwards, 1, 0), (self.upwards, 2, 1), (self.upwards, 4, 3),
            (self.upwards, 6, 3), (self.upwards, 7, 4), (self.upwards, HUGE, HUGE - 3),
            (self.downwards, -HUGE, None), (self.downwards, 0, None), (self.downwards, HUGE, None),
            (self.huge, -HUGE, 0), (self.huge, 0, HUGE), (self.huge, HUGE, HUGE), (self.huge, HUGE + 1, HUGE + 1),
            (self.huge, 3 * HUGE, 2 * HUGE + 1),
        ])

    def test_at(self):
        self.assert_tells("at", [
            (self.two, 0, -3), (self.two, 1, -2), (self.two, 8, 5), (self.two, 9, 8),
            (self.upwards, 0, 1), (self.upwards, 2, 3), (self.upwards, 3, 6), (self.upwards, 4, 7),
            (self.upwards, HUGE, HUGE + 3), (keeper_of_stretches((5, None)), 0, 5), (keeper_of_stretches((8, 8)), 0, 8),
            (self.huge, 0, -HUGE), (self.huge, HUGE - 1, -1), (self.huge, HUGE, HUGE), (self.huge, 2 * HUGE, 2 * HUGE),
        ])

    def test_next_in(self):
        self.assert_tells("next_in", [
            (self.nothing, 0, None), (self.nothing, -HUGE, None),
            (self.everything, 3, 3), (self.everything, HUGE, HUGE),
            (self.two, -HUGE, -3), (self.two, -4, -3), (self.two, -3, -3), (self.two, 5, 5), (self.two, 6, 8),
            (self.two, 7, 8), (self.two, 8, 8), (self.two, 9, None), (self.two, HUGE, None),
            (self.endless, -HUGE, -HUGE), (self.endless, -4, -4), (self.endless, -3, 0), (self.endless, 2, 2),
            (self.endless, 3, 7), (self.endless, 6, 7), (self.endless, HUGE, HUGE),
            (self.downwards, 4, 6), (self.downwards, 8, None), (self.huge, 0, HUGE),
        ])

    def test_next_out(self):
        self.assert_tells("next_out", [
            (self.everything, 0, None), (self.everything, -HUGE, None),
            (self.nothing, 3, 3), (self.nothing, HUGE, HUGE),
            (self.two, -HUGE, -HUGE), (self.two, -4, -4), (self.two, -3, 6), (self.two, 5, 6), (self.two, 6, 6),
            (self.two, 7, 7), (self.two, 8, 9), (self.two, 9, 9), (self.two, HUGE, HUGE),
            (self.endless, -HUGE, -3), (self.endless, -4, -3), (self.endless, -3, -3), (self.endless, 0, 3),
            (self.endless, 2, 3), (self.endless, 6, 6), (self.endless, 7, None), (self.endless, HUGE, None),
            (self.downwards, -HUGE, 4), (self.downwards, 6, 8), (self.huge, HUGE, 2 * HUGE + 1),
        ])

    def test_last_in(self):
        self.assert_tells("last_in", [
            (self.nothing, 0, None), (self.nothing, HUGE, None), (self.everything, 3, 3), (self.everything, HUGE, HUGE),
            (self.two, -HUGE, None), (self.two, -4, None), (self.two, -3, -3), (self.two, 5, 5), (self.two, 6, 5),
            (self.two, 7, 5), (self.two, 8, 8), (self.two, 9, 8), (self.two, HUGE, 8),
            (self.endless, -HUGE, -HUGE), (self.endless, -3, -4), (self.endless, -1, -4), (self.endless, 0, 0),
            (self.endless, 6, 2), (self.endless, 7, 7), (self.endless, HUGE, HUGE),
            (self.upwards, 0, None), (self.upwards, 5, 3), (self.huge, HUGE - 1, -1),
        ])

    def test_last_out(self):
        self.assert_tells("last_out", [
            (self.everything, 0, None), (self.everything, HUGE, None),
            (self.nothing, 3, 3), (self.nothing, -HUGE, -HUGE),
            (self.two, -HUGE, -HUGE), (self.two, -4, -4), (self.two, -3, -4), (self.two, 5, -4), (self.two, 6, 6),
            (self.two, 7, 7), (self.two, 8, 7), (self.two, 9, 9), (self.two, HUGE, HUGE),
            (self.endless, -HUGE, None), (self.endless, -4, None), (self.endless, -3, -3), (self.endless, 2, -1),
            (self.endless, 6, 6), (self.endless, 7, 6), (self.endless, HUGE, 6),
            (self.upwards, 3, 0), (self.upwards, HUGE, 5), (self.huge, 2 * HUGE, HUGE - 1),
        ])

    def test_each_small_keeper(self):
        for model in models.small_models():
            keeper, why = models.keeper_with(model), models.stretches_of(model)
            self.assertEqual(keeper.many(), models.many_of(model), why)
            for place in range(12):
                self.assertEqual(told_at(keeper, place), models.at_of(model, place), (why, place))
            for number in ASKED:
                self.assertIs(keeper.has(number), number in model, (why, number))
                self.assertEqual(keeper.below(number), models.below_of(model, number), (why, number))
                self.assertEqual(keeper.next_in(number), models.next_of(model, number, True), (why, number))
                self.assertEqual(keeper.next_out(number), models.next_of(model, number, False), (why, number))
                self.assertEqual(keeper.last_in(number), models.last_of(model, number, True), (why, number))
                self.assertEqual(keeper.last_out(number), models.last_of(model, number, False), (why, number))
            self.assertEqual(keeper.stretches(), why)

    def test_below_and_at_go_together(self):
        for keeper in [self.two, self.upwards, self.huge]:
            for place in [0, 1, 2, 3, 7, 8, 9, HUGE - 1, HUGE, HUGE + 1]:
                number = told_at(keeper, place)
                if number is not None:
                    self.assertEqual(keeper.below(number), place)
                    self.assertIs(keeper.has(number), True)

    def test_asked_twice_tells_the_same(self):
        for keeper in [self.nothing, self.everything, self.two, self.endless, self.huge]:
            with self.subTest(keeper.stretches()):
                def answers():
                    return [
                        keeper.stretches(), keeper.many(), told_at(keeper, 3),
                        [getattr(keeper, question)(number) for number in ASKED for question in [
                            "has", "below", "next_in", "next_out", "last_in", "last_out",
                        ]],
                        keeper.copied().stretches(),
                    ]
                self.assertEqual(answers(), answers())

    def test_dozens_of_stretches(self):
        keeper = keeper_of_stretches(*[(10 * k, 10 * k + 3) for k in range(100)])
        self.assertEqual(keeper.many(), 400)
        for k in range(100):
            self.assertEqual(keeper.below(10 * k), 4 * k)
            self.assertEqual(keeper.below(10 * k + 7), 4 * k + 4)
            self.assertEqual(keeper.at(4 * k), 10 * k)
            self.assertEqual(keeper.at(4 * k + 3), 10 * k + 3)
            self.assertEqual(keeper.next_out(10 * k), 10 * k + 4)
            self.assertEqual(keeper.last_in(10 * k + 9), 10 * k + 3)
            self.assertEqual(keeper.next_in(10 * k - 5), 10 * k)
            self.assertEqual(keeper.last_out(10 * k + 3), 10 * k - 1)


class NoSuchTest(RefusalTest):

    def test_no_numbers(self):
        for place in [0, 1, HUGE]:
            self.assert_refused(NoSuch, Keeper().at, place)

    def test_no_least_number(self):
        for stretches in [[(None, None)], [(None, 5)], [(None, -HUGE)], [(None, 5), (8, 9)], [(None, 5), (8, None)]]:
            for place in [0, 1, 8, HUGE]:
                self.assert_refused(NoSuch, keeper_of_stretches(*stretches).at, place)

    def test_beyond_the_last_number(self):
        for stretches, many in [([(8, 8)], 1), ([(1, 5)], 5), ([(-3, 5), (8, 8)], 10), ([(1, HUGE)], HUGE)]:
            keeper = keeper_of_stretches(*stretches)
            self.assertEqual(keeper.at(many - 1), stretches[-1][1])
            for place in [many, many + 1, many + HUGE]:
                self.assert_refused(NoSuch, keeper.at, place)
            self.assertEqual(keeper.stretches(), stretches)


class OwnedTest(unittest.TestCase):
    """What is told is the asker's own."""

    def test_a_told_list_that_is_changed_changes_nothing(self):
        for stretches in [[], [(1, 5)], [(None, 5), (7, 8)], [(None, None)]]:
            with self.subTest(stretches):
                keeper = keeper_of_stretches(*stretches)
                told = keeper.stretches()
                told.append((20, 30))
                told[0] = "changed by the asker"
                self.assertEqual(keeper.stretches(), stretches)
                keeper.stretches().clear()
                self.assertEqual(keeper.stretches(), stretches)
                self.assertIsNot(keeper.stretches(), keeper.stretches())

    def test_a_told_list_is_changed_by_no_later_deed(self):
        keeper = keeper_of_stretches((1, 5), (7, 9))
        told = keeper.stretches()
        keeper.put((20, 30))
        keeper.take((3, 3))
        keeper.move(4)
        keeper.mirror()
        keeper.lose(keeper)
        keeper.stretches()
        self.assertEqual(told, [(1, 5), (7, 9)])

    def test_what_is_told_is_not_what_was_handed_in(self):
        stretch = tuple([1, 5])
        self.assertIsNot(keeper_of_stretches(stretch).stretches()[0], stretch)


class CopiedTest(unittest.TestCase):

    def test_another_keeper_with_the_same_numbers(self):
        for stretches in [[], [(1, 5)], [(None, 5), (7, 8), (10, None)], [(None, None)], [(-HUGE, HUGE)]]:
            with self.subTest(stretches):
                keeper = keeper_of_stretches(*stretches)
                copy = keeper.copied()
                self.assertIs(type(copy), Keeper)
                self.assertIsNot(copy, keeper)
                self.assertIsNot(copy, keeper.copied())
                self.assertEqual(copy.stretches(), stretches)
                self.assertEqual(keeper.stretches(), stretches)

    def test_each_goes_its_own_way(self):
        deeds = [
            lambda keeper: keeper.put((6, 6)), lambda keeper: keeper.take((3, 3)), lambda keeper: keeper.keep((2, 8)),
            lambda keeper: keeper.turn((None, 4)), lambda keeper: keeper.move(1), lambda keeper: keeper.mirror(),
            lambda keeper: keeper.gain(keeper_of_stretches((6, None))),
            lambda keeper: keeper.lose(keeper_of_stretches((3, 8))),
            lambda keeper: keeper.meet(keeper_of_stretches((3, 8))),
            lambda keeper: keeper.part(keeper_of_stretches((3, 8))),
        ]
        for at, deed in enumerate(deeds):
            with self.subTest(at):
                keeper = keeper_of_stretches((1, 5), (7, 9))
                copy = keeper.copied()
                deed(copy)
                self.assertEqual(keeper.stretches(), [(1, 5), (7, 9)])
                self.assertNotEqual(copy.stretches(), [(1, 5), (7, 9)])
                copy = keeper.copied()
                deed(keeper)
                self.assertEqual(copy.stretches(), [(1, 5), (7, 9)])
                self.assertNotEqual(keeper.stretches(), [(1, 5), (7, 9)])

    def test_a_copy_can_be_set_against_its_keeper(self):
        keeper = keeper_of_stretches((1, 5), (7, None))
        keeper.part(keeper.copied())
        self.assertEqual(keeper.stretches(), [])


if __name__ == "__main__":
    unittest.main()
