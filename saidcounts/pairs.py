"""Letters that stand scattered in a word: patterns, pairs and disorder."""

from math import comb

from saidcounts.checks import LETTERS, check_letter, check_rule, check_word
from saidcounts.ends import check_tall, said_ends, tall_runs
from saidcounts.errors import BadPattern
from saidcounts.marks import ends_of, runs_of, runs_to

MOST_PATTERN_LETTERS = 6


def check_pattern(pattern):
    """Raise BadPattern for a value that is no string of 1 to 6 letters."""
    if not isinstance(pattern, str) or not 1 <= len(pattern) <= MOST_PATTERN_LETTERS:
        raise BadPattern()
    if not all([sign in LETTERS for sign in pattern]):
        raise BadPattern()


def said_runs(rule, word):
    """The runs of the word said by a rule."""
    return runs_to(said_ends(rule, ends_of(word)))


def ways_with_run(ways, pattern, letter, size):
    """How often each beginning of a pattern stands, by its length, when a run comes behind what was there."""
    found = list(ways)
    for end in range(1, len(pattern) + 1):
        taken = 1
        while taken <= end and pattern[end - taken] == letter:
            found[end] += ways[end - taken] * comb(size, taken)
            taken += 1
    return found


def scattered_in(runs, pattern):
    """How often a pattern stands in a word with told runs."""
    ways = [1] + [0] * len(pattern)
    for letter, size in runs:
        ways = ways_with_run(ways, pattern, letter, size)
    return ways[-1]


def disorder_in(runs):
    """How often, in a word with told runs, a letter that is later in the alphabet stands ahead of an earlier one."""
    stood = {letter: 0 for letter in LETTERS}
    found = 0
    for letter, size in runs:
        found += size * sum([stood[other] for other in LETTERS if other > letter])
        stood[letter] += size
    return found


def scattered(word, pattern):
    """How often a pattern stands in the word."""
    check_word(word)
    check_pattern(pattern)
    return scattered_in(runs_of(word), pattern)


def scattered_said(rule, word, pattern):
    """How often a pattern stands in the word said by the rule."""
    check_rule(rule)
    check_word(word)
    check_pattern(pattern)
    return scattered_in(said_runs(rule, word), pattern)


def scattered_tall(word, told, pattern):
    """How often a pattern stands in a tall word."""
    check_tall(word, told)
    check_pattern(pattern)
    return scattered_in(tall_runs(word, told), pattern)


def pairs_ahead(word, one, other):
    """How many pairs of places have the letter one and, at the greater place, the letter other."""
    check_word(word)
    check_letter(one)
    check_letter(other)
    return scattered_in(runs_of(word), one + other)


def disorder(word):
    """How many pairs of places have a letter that is later in the alphabet ahead of an earlier one."""
    check_word(word)
    return disorder_in(runs_of(word))


def disorder_said(rule, word):
    """The disorder of the word said by the rule."""
    check_rule(rule)
    check_word(word)
    return disorder_in(said_runs(rule, word))


def disorder_tall(word, told):
    """The disorder of a tall word."""
    check_tall(word, told)
    return disorder_in(tall_runs(word, told))
