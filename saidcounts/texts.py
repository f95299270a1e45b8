"""Tall words written as texts and read from them."""

from saidcounts.checks import GREATEST_COUNT, LETTERS, MOST_LETTERS
from saidcounts.ends import check_tall
from saidcounts.errors import InvalidText, NotText
from saidcounts.marks import core_of, gaps_of

MOST_SIGNS = 4000
DIGITS = "0123456789"
# The greatest gap has so many digits.
MOST_DIGITS = 61


def end_of_signs(text, start, signs):
    """The first place of a text, from a start on, with none of some signs; the length if there is none."""
    end = start
    while end < len(text) and text[end] in signs:
        end += 1
    return end


def check_sign(text, place, sign):
    """Raise InvalidText unless a sign stands at a place; the empty one stands at the end."""
    if text[place:place + 1] != sign:
        raise InvalidText(place)


def read_core(text):
    """The core at the beginning of a text."""
    end = end_of_signs(text, 0, LETTERS)
    check_sign(text, end, ":")
    word = text[:end]
    if len(word) > MOST_LETTERS or core_of(word) != word:
        raise InvalidText(0)
    return word


def read_gap(text, start):
    """The pair of the gap that begins at a place of a text and of the place behind it."""
    end = end_of_signs(text, start, DIGITS)
    digits = text[start:end]
    # Very long rows of digits are not read as numbers at all.
    if digits == "" or digits[0] == "0" or len(digits) > MOST_DIGITS or int(digits) > GREATEST_COUNT:
        raise InvalidText(start)
    return (int(digits), end)


def write_tall(word, told):
    """The text of a tall word."""
    check_tall(word, told)
    return word + ":" + ",".join([str(gap) for gap in told])


def read_tall(text):
    """The pair of the core and the gaps of a text."""
    if not isinstance(text, str) or len(text) > MOST_SIGNS:
        raise NotText()
    core = read_core(text)
    place = len(core) + 1
    told = []
    for level in range(len(gaps_of(core))):
        if level > 0:
            check_sign(text, place, ",")
            place += 1
        gap, place = read_gap(text, place)
        told.append(gap)
    check_sign(text, place, "")
    return (core, tuple(told))
