"""Texts: how a keeper is written and read, and what is no text of one."""

import inspect
import unittest

import models
from refusals import RefusalTest
from stretchkeeper import texts
from stretchkeeper.errors import BadKeeper, BadText
from stretchkeeper.keepers import Keeper
from stretchkeeper.texts import keeper_of, text_of
from things import HUGE, named, no_keepers, no_texts

# The stretches of a keeper and its text.
WRITTEN = [
    ([], ""),
    ([(8, 8)], "8"),
    ([(0, 0)], "0"),
    ([(-8, -8)], "-8"),
    ([(-3, 5)], "-3..5"),
    ([(-5, -3)], "-5..-3"),
    ([(0, 9)], "0..9"),
    ([(-1, 0)], "-1..0"),
    ([(1, 2)], "1..2"),
    ([(10, 100)], "10..100"),
    ([(None, 5)], "..5"),
    ([(None, -5)], "..-5"),
    ([(None, 0)], "..0"),
    ([(8, None)], "8.."),
    ([(-8, None)], "-8.."),
    ([(0, None)], "0.."),
    ([(None, None)], ".."),
    ([(1, 1), (3, 3)], "1 3"),
    ([(-3, 5), (8, 8)], "-3..5 8"),
    ([(-3, -3), (-1, -1), (1, 1)], "-3 -1 1"),
    ([(None, -3), (0, 0), (2, None)], "..-3 0 2.."),
    ([(None, 4), (6, None)], "..4 6.."),
    ([(-20, -10), (-8, -8), (0, 3), (5, 6), (100, None)], "-20..-10 -8 0..3 5..6 100.."),
    ([(-HUGE, HUGE)], "-1" + "0" * 999 + "..1" + "0" * 999),
    ([(HUGE - 1, HUGE - 1)], "9" * 999),
    ([(10 * k, 10 * k + k % 9) for k in range(1, 60)], " ".join(
        f"{10 * k}" if k % 9 == 0 else f"{10 * k}..{10 * k + k % 9}" for k in range(1, 60)
    )),
]

# Texts that are not written as a keeper's text is.
WRONG = [
    # Blanks ahead, behind, two of them, or nothing else; other signs between.
    " ", "  ", " 8", "8 ", "1  3", " 1 3", "1 3 ", ".. ", " ..", "1 .. 5", "1.. 5", "1 ..5", "- 3", "1..- 5",
    "1,3", "1;3", "1, 3", "1\n3", "8\n", "\n8", "\n", "1\t3", "\t8", "8\t", "8\r", "8\x0b", "8\x0c", "8\x00", "1..5\n",
    # Points too few or too many, or elsewhere.
    ".", "...", "....", "1.5", "1...5", "1....5", "1..5..", "..1..5", "1..5..9", "..5..", "1.", ".5", "1. .5",
    "... 8", "1..5.", ".1..5", "..1..", "1 . 5", "....8", "8....", ".. ..",
    # Numbers that are written otherwise.
    "00", "01", "-0", "-00", "-01", "08", "+1", "+0", "--1", "-", "+", "-+1", "1-", "1_0", "1_000", "_1", "1_",
    "1e3", "1.0", "0x10", "0b1", "0o7", "10L", "1j", "inf", "nan", "None", "True", "1'000", "(1)",
    "01..5", "1..05", "-0..5", "..-0", "-0..", "+1..5", "1..+5", "..+5", "+5..", "..05", "05..", "00..", "..00",
    "-..5", "1..-", "-..", "..-", "-..-", "1..5-", "- 0", "0 -0", "-0 1..", "1_0..5_0", "..1_0",
    # A last that is less than the first, or one number written as a stretch.
    "5..3", "0..-1", "-3..-5", "1..-1", "5..5", "0..0", "-5..-5", "1 5..5", "5..5 7",
    # Stretches that do not rise.
    "3 1", "8 -3..5", "7..9 1..5", "6.. ..4", "6.. 1", "1 ..0", "5 ..", "-1 -3", "1 5 3", "1..2 8 4..5",
    # Stretches that overlap, touch, lie within another one or are the same.
    "1..5 3..9", "1..5 5..9", "1..9 3..5", "3..5 1..9", "8 8", "1..5 1..5", "1..5 1", "1..5 5", "1..5 3",
    "..5 3", "..5 3..9", "..5 5..", "..5 3..", "5.. 8", "5.. 8..", "..5 ..8", "..8 ..5", ".. 5", ".. ..5", ".. 5..",
    # Stretches side by side.
    "1 2", "1..5 6..9", "1..5 6", "5 6..9", "-1 0", "..5 6", "..5 6..", "4 5..", "1 3 4", "1..2 3 5",
    # A missing end in the middle.
    "1.. 5", "1.. 5..9", "1 ..5", "..3 5.. 9", "1 .. 5", "1 3.. 9..", "1 ..9 20", "..1 ..5 9", "1 .. 9",
    # Other signs and words.
    "a", "x", "1..b", "a..5", "one", "none", "empty", "()", "[]", "(1, 5)", "[(1, 5)]", "1-5", "1:5", "1..5;",
    "1..5,8", "1..5x", "x1..5", "*", "!", "~", "\\", "'8'", '"8"', "1/2", "2*3", "1+1", "8 #", "{8}", "<8>",
    # Figures, blanks and points beyond ASCII that Python may take for others.
    "\u0663", "\u00b2", "\uff18", "1\u00a03", "1\u20263", "\u22128", "\u20035", "1..\u0665", "\ud800",
    # Not numbers, however many figures they have.
    "0" * 900, "0" * 6000, "1" * 900 + "x", "1" * 6000 + "x", "-" * 6000, "." * 6000, " " * 6000, "8 " * 900,
]


def keeper_of_stretches(*stretches):
    keeper = Keeper()
    for stretch in stretches:
        keeper.put(stretch)
    return keeper


class InterfaceTest(unittest.TestCase):

    def test_names_and_arguments(self):
        for name, names in {"text_of": ["keeper"], "keeper_of": ["text"]}.items():
            with self.subTest(name):
                function = getattr(texts, name)
                self.assertEqual(list(inspect.signature(function).parameters), names)
                self.assertEqual(function.__module__, "stretchkeeper.texts")

    def test_arguments_by_name(self):
        self.assertEqual(text_of(keeper=Keeper()), "")
        self.assertEqual(keeper_of(text="8").stretches(), [(8, 8)])


class TextOfTest(RefusalTest):

    def test_written(self):
        for stretches, text in WRITTEN:
            with self.subTest(text[:60]):
                keeper = keeper_of_stretches(*stretches)
                self.assertEqual(text_of(keeper), text)
                self.assertIs(type(text_of(keeper)), str)
                self.assertEqual(keeper.stretches(), stretches)

    def test_written_rising_however_it_was_put_in(self):
        keeper = keeper_of_stretches((7, 9), (1, 2), (20, None), (4, 4), (3, 3), (None, -5), (8, 10))
        self.assertEqual(text_of(keeper), "..-5 1..4 7..10 20..")
        keeper.mirror()
        self.assertEqual(text_of(keeper), "..-20 -10..-7 -4..-1 5..")

    def test_bad_keeper(self):
        for thing in no_keepers():
            self.assert_refused(BadKeeper, text_of, thing)


class KeeperOfTest(RefusalTest):

    def test_read(self):
        for stretches, text in WRITTEN:
            with self.subTest(text[:60]):
                keeper = keeper_of(text)
                self.assertIs(type(keeper), Keeper)
                self.assertEqual(keeper.stretches(), stretches)

    def test_each_small_keeper_there_and_back(self):
        texts_seen = set()
        for model in models.small_models():
            stretches = models.stretches_of(model)
            text = text_of(models.keeper_with(model))
            texts_seen.add(text)
            self.assertEqual(keeper_of(text).stretches(), stretches, text)
            self.assertEqual(text_of(keeper_of(text)), text)
        self.assertEqual(len(texts_seen), len(models.small_models()))

    def test_wrong_texts(self):
        for text in WRONG:
            self.assert_refused(BadText, keeper_of, text)

    def test_no_texts(self):
        for thing in no_texts():
            self.assert_refused(BadText, keeper_of, thing)

    def test_each_short_text(self):
        """Each text of up to four of some signs is read if it is written so, and else refused."""
        signs = "-.013 "
        short = [""]
        for text in short:
            if len(text) < 4:
                short.extend(text + sign for sign in signs)
        good = self.good_texts()
        for text in short:
            if text in good:
                self.assertEqual(text_of(keeper_of(text)), text)
            else:
                with self.assertRaises(BadText, msg=repr(text)):
                    keeper_of(text)

    def good_texts(self):
        """All texts of up to four of these signs that are written so, worked out without the program."""
        figures = "013"
        plain = ["0"] + [
            first + rest for first in "13" for rest in [
                "", *figures, *[a + b for a in figures for b in figures],
                *[a + b + c for a in figures for b in figures for c in figures],
            ]
        ]
        numbers = {word: int(word) for word in plain + ["-" + word for word in plain if word != "0"]}
        numbers = {word: number for word, number in numbers.items() if len(word) <= 4}
        words = {word: (number, number) for word, number in numbers.items()}
        words[".."] = (None, None)
        for word, number in numbers.items():
            words[".." + word] = (None, number)
            words[word + ".."] = (number, None)
            for last, end in numbers.items():
                if number < end:
                    words[word + ".." + last] = (number, end)
        good = {word: [stretch] for word, stretch in words.items() if len(word) <= 4}
        good[""] = []
        short = {word: stretch for word, stretch in words.items() if len(word) <= 2}
        for one, (_, last) in short.items():
            for other, (first, _) in short.items():
                if last is not None and first is not None and last + 1 < first:
                    if len(one) + 1 + len(other) <= 4:
                        good[one + " " + other] = [short[one], short[other]]
        return good


class OwnedTest(unittest.TestCase):

    def test_a_read_keeper_is_the_askers_own(self):
        one, other = keeper_of("1..5"), keeper_of("1..5")
        self.assertIsNot(one, other)
        one.take((3, 3))
        self.assertEqual(text_of(one), "1..2 4..5")
        self.assertEqual(text_of(other), "1..5")
        self.assertEqual(text_of(keeper_of("1..5")), "1..5")
        self.assertEqual(text_of(keeper_of("")), "")

    def test_a_told_text_is_changed_by_no_later_deed(self):
        keeper = keeper_of("1..5 8")
        told = text_of(keeper)
        keeper.mirror()
        self.assertEqual(told, "1..5 8")
        self.assertEqual(text_of(keeper), "-8 -5..-1")

    def test_a_refusal_changes_no_later_answer(self):
        keeper = keeper_of("..5 8")
        for thing in no_texts() + WRONG:
            with self.assertRaises(BadText, msg=named(thing)):
                keeper_of(thing)
        for thing in no_keepers():
            with self.assertRaises(BadKeeper, msg=named(thing)):
                text_of(thing)
        self.assertEqual(text_of(keeper), "..5 8")
        self.assertEqual(keeper_of("..5 8").stretches(), [(None, 5), (8, 8)])
        self.assertEqual(text_of(Keeper()), "")


if __name__ == "__main__":
    unittest.main()
