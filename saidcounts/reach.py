"""The lengths that a rule reaches, and the words of a tuple by their cores."""

from saidcounts.checks import LETTERS, check_kinds, check_number, check_rule, check_rule_without_zeros, check_word
from saidcounts.checks import check_words
from saidcounts.errors import TooGreat
from saidcounts.marks import core_of
from saidcounts.quotients import least_put_to
from saidcounts.sums import MOST_TIMES, count_after

MOST_LETTERS_REACHED = 400
GREATEST_SIZE = 10 ** 50
MOST_WORDS = 8


def with_one_kind(letters, counts, most):
    """For each length up to the most one the fewest letters, if there may be one more kind of them."""
    found = {}
    for length in letters:
        for place in counts:
            total = length + place
            fewest = letters[length] + counts[place]
            if total <= most and fewest <= found.get(total, fewest):
                found[total] = fewest
    return found


def fewest_by_length(rule, many, most):
    """For each length up to the most one that a rule says words of so many kinds of letters to: the fewest letters."""
    counts = {place: least_put_to(rule, place) for place in range(most + 1)}
    counts = {place: counts[place] for place in counts if counts[place] is not None}
    found = {0: 0}
    for _ in range(many):
        found = with_one_kind(found, counts, most)
    return found


def fewest_letters(rule, size, many):
    """The fewest letters of a word of so many kinds that the rule says to so many letters, None if there is none."""
    check_rule(rule)
    check_number(size, 0, MOST_LETTERS_REACHED)
    check_kinds(many)
    return fewest_by_length(rule, many, size).get(size)


def lengths_said(rule, many, most):
    """The lengths up to the most one of all words that the rule says of words of so many kinds of letters."""
    check_rule(rule)
    check_kinds(many)
    check_number(most, 0, MOST_LETTERS_REACHED)
    return tuple(sorted(fewest_by_length(rule, many, most)))


def has_length(rule, word, size, times):
    """Whether a word has at least so many letters when a rule without zeros has said it so many times."""
    try:
        return sum([count_after(rule, word.count(letter), times) for letter in LETTERS]) >= size
    except TooGreat:
        # A count above 10 ** 60 is more than any size that is asked for, and no count grows less.
        return True


def least_times(rule, word, size):
    """After how few sayings the word has at least so many letters, None if it has not after 10 ** 18."""
    check_rule_without_zeros(rule)
    check_word(word)
    check_number(size, 0, GREATEST_SIZE)
    if not has_length(rule, word, size, MOST_TIMES):
        return None
    low = 0
    high = MOST_TIMES
    while low < high:
        half = (low + high) // 2
        if has_length(rule, word, size, half):
            high = half
        else:
            low = half + 1
    return low


def by_core(words):
    """For each core of some words, in the order in which they come first, the pair of it and of their indexes."""
    check_words(words, MOST_WORDS)
    found = {}
    for index, word in enumerate(words):
        found.setdefault(core_of(word), []).append(index)
    return tuple([(core, tuple(found[core])) for core in found])
