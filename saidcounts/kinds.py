"""Words with other letters, with some letters alone, turned and joined, and the cores of their beginnings."""

from math import perm

from saidcounts.checks import LETTERS, check_word
from saidcounts.ends import tall_to
from saidcounts.errors import BadLetters
from saidcounts.marks import core_of, ends_of, marks_of

PAIRS_OF_LETTERS = ("ab", "ac", "ad", "bc", "bd", "cd")


def check_some_letters(letters):
    """Raise BadLetters for a value that is no string of letters."""
    if not isinstance(letters, str) or not all([sign in LETTERS for sign in letters]):
        raise BadLetters()


def check_all_letters(letters):
    """Raise BadLetters for a value that is no string of the four letters in some order."""
    check_some_letters(letters)
    if sorted(letters) != list(LETTERS):
        raise BadLetters()


def letters_in_order(word):
    """The letters that stand in a word, in the order in which they come first."""
    # A dict keeps the order in which its keys were added.
    return list({letter: True for letter in word})


def left_with(word, letters):
    """What is left of a word when only some letters stay."""
    return "".join([letter for letter in word if letter in letters])


def renamed(word, letters):
    """The word with a, b, c, d replaced by the letters of a string."""
    check_word(word)
    check_all_letters(letters)
    return "".join([letters[LETTERS.index(letter)] for letter in word])


def first_form(word):
    """The word with its letters renamed a, b, .. in the order in which they come first in it."""
    check_word(word)
    order = letters_in_order(word)
    return "".join([LETTERS[order.index(letter)] for letter in word])


def count_forms(word):
    """How many unlike words all renamings make of the word."""
    check_word(word)
    return perm(len(LETTERS), len(letters_in_order(word)))


def only(word, letters):
    """What is left of the word when only the letters of a string stay."""
    check_word(word)
    check_some_letters(letters)
    return left_with(word, letters)


def shadow_marks(word):
    """For each two letters the pair of them and of the core of what is left of the word with them alone."""
    check_word(word)
    return tuple([(letters, core_of(left_with(word, letters))) for letters in PAIRS_OF_LETTERS])


def turned(word):
    """The word from its end to its beginning."""
    check_word(word)
    return word[::-1]


def turned_marks(word):
    """The marks of the word from its end to its beginning."""
    check_word(word)
    return marks_of(word[::-1])


def is_even_word(word):
    """Whether the word has the same core from its end to its beginning."""
    check_word(word)
    return core_of(word[::-1]) == core_of(word)


def joined(one, other):
    """The pair of the core and the gaps of one with other behind it."""
    check_word(one)
    check_word(other)
    return tall_to(ends_of(one + other))


def cores_on_the_way(word):
    """The cores of the beginnings of the word, without those that are the same as the one before."""
    check_word(word)
    found = [""]
    for end in range(1, len(word) + 1):
        core = core_of(word[:end])
        if core != found[-1]:
            found.append(core)
    return found
