"""Words counted by their marks and by their levels, and ranked among those with one core and length."""

from math import comb

from saidcounts.checks import are_numbers_between, check_kinds, check_number, check_number_from, check_word
from saidcounts.cores import GREATEST_TOLD, MOST_LETTERS_LISTED, check_told, coins_of, count_with_length
from saidcounts.cores import sums_within, ways_behind_each, ways_exact, ways_within
from saidcounts.errors import BadNumber
from saidcounts.marks import check_core, core_of, gaps_of, regapped
from saidcounts.order import orders_of

MOST_LETTERS_SPREAD = 10


def check_marks(marks):
    """Raise BadNumber for a value that is no rising tuple of marks that words with told counts can have."""
    if not are_numbers_between(marks, 1, GREATEST_TOLD):
        raise BadNumber()
    if not all([low < high for low, high in zip(marks, marks[1:])]):
        raise BadNumber()


def count_words(told):
    """How many words there are in which the letters stand as often as a tuple tells."""
    check_told(told)
    return orders_of(told)


def count_within(told, marks):
    """How many words with told counts of letters have no marks but 0 and told ones."""
    check_told(told)
    check_marks(marks)
    return ways_within(told, marks)


def count_exact(told, marks):
    """How many words with told counts of letters have just the told marks and 0."""
    check_told(told)
    check_marks(marks)
    return ways_exact(told, marks)


def ways_by_levels(told):
    """How many words with told counts of letters have 0, 1, .. levels, up to the greatest count."""
    most = max(told)
    found = []
    for size, words in enumerate(sums_within(told, tuple(range(1, most + 1)))):
        # A word with fewer marks is within each choice of so many marks that has its own among them.
        known = [many * comb(most - less, size - less) for less, many in enumerate(found)]
        found.append(words - sum(known))
    return found


def rows_of_counts(size, many):
    """All tuples of so many integers from 0 on with a sum."""
    rows = [()]
    for _ in range(many - 1):
        rows = [row + (count,) for row in rows for count in range(size - sum(row) + 1)]
    return [row + (size - sum(row),) for row in rows]


def spread(size, many):
    """How many words of so many letters of the first many ones have 0, 1, .. levels."""
    check_number(size, 0, MOST_LETTERS_SPREAD)
    check_kinds(many)
    # Which letter stands how often does not matter here: rows with the same counts are counted together.
    times = {}
    for row in rows_of_counts(size, many):
        told = tuple(sorted(row))
        times[told] = times.get(told, 0) + 1
    found = [0] * (size + 1)
    for told in times:
        for level, words in enumerate(ways_by_levels(told)):
            found[level] += times[told] * words
    return tuple(found)


def rank_in_core(word):
    """How many words of as many letters with the same core have lesser gaps."""
    check_word(word)
    if len(word) > MOST_LETTERS_LISTED:
        raise BadNumber()
    core = core_of(word)
    sizes = coins_of(core)
    left = len(word) - len(core)
    tables = ways_behind_each(sizes, left)
    rank = 0
    for coin, gap, ways in zip(sizes, gaps_of(word), tables):
        for _ in range(gap - 1):
            rank += ways[left]
            left -= coin
    return rank


def row_with_rank(core, size, rank):
    """The row of gaps that so many others, of words of so many letters with a core, stand ahead of."""
    sizes = coins_of(core)
    left = size - len(core)
    tables = ways_behind_each(sizes, left)
    row = []
    for coin, ways in zip(sizes, tables):
        gap = 1
        while rank >= ways[left]:
            rank -= ways[left]
            left -= coin
            gap += 1
        row.append(gap)
    return row


def word_in_core(word, size, rank):
    """The word of so many letters with the core that has a rank among these, None if there is none."""
    check_core(word)
    check_number(size, 0, MOST_LETTERS_LISTED)
    check_number_from(rank, 0)
    if rank >= count_with_length(word, size):
        return None
    return regapped(word, row_with_rank(word, size, rank))
