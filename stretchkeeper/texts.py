"""Texts: how a keeper is written, and read again."""

from stretchkeeper.errors import BadText
from stretchkeeper.keepers import Keeper, check_keeper
from stretchkeeper.stretches import is_stretch


def text_of(keeper):
    """The keeper's stretches as they are written, rising, with one blank between."""
    check_keeper(keeper)
    return " ".join([_word_of(first, last) for first, last in keeper.stretches()])


def _word_of(first, last):
    if first is not None and first == last:
        return str(first)
    return f"{_written_end(first)}..{_written_end(last)}"


def _written_end(end):
    return "" if end is None else str(end)


def keeper_of(text):
    """The keeper of which this is the text."""
    if type(text) is not str:
        raise BadText("the text of a keeper is a str")
    keeper = Keeper()
    # Split by a blank the empty text is one empty word, not none.
    words = text.split(" ") if text != "" else []
    for word in words:
        keeper.put(_stretch_of(word))
    # The words are read as int takes them (with a 0 ahead, say), and put in
    # whatever order and however near they stand: only what is written from the
    # keeper in just this way is its text.
    if text_of(keeper) != text:
        raise BadText("the text is not written as a keeper's text is")
    return keeper


def _stretch_of(word):
    first, points, last = word.partition("..")
    if points == "":
        number = _number_of(word)
        return (number, number)
    stretch = (_end_of(first), _end_of(last))
    if not is_stretch(stretch):
        raise BadText("the last number of a stretch is less than its first")
    return stretch


def _end_of(text):
    return None if text == "" else _number_of(text)


def _number_of(text):
    try:
        return int(text)
    except ValueError:
        raise BadText("a number or the points of a stretch are missing or written wrongly") from None
