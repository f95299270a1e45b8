"""Rules between two words, and rules between the words of some pairs."""

from math import comb

from saidcounts.checks import are_numbers_from, check_number_from, check_rule, check_word, is_tuple_of
from saidcounts.errors import BadNumber, BadPairs
from saidcounts.marks import core_of, marks_of
from saidcounts.order import gaps_in_one_core, growing_gaps, product_of
from saidcounts.words import length_of_said, said_word

MOST_PAIRS = 6

# A part of a row is what stands in one gap: a pair tells how many numbers from 1 on there are and what their sum is.


def parts_between(one, other):
    """The parts of the rows from one to other, None if there are no rows; BadWord for the first that is no word."""
    rows = growing_gaps(one, other)
    if rows is None:
        return None
    return list(zip(rows[0], rows[1]))


def count_part(size, total):
    """How many tuples of so many numbers have a sum."""
    return comb(total - 1, size - 1)


def part_at(size, total, rank):
    """The tuple of so many numbers with a sum that rank others stand ahead of."""
    row = []
    while len(row) < size - 1:
        number = 1
        alike = comb(total - 2, size - len(row) - 2)
        while rank >= alike:
            rank -= alike
            number += 1
            alike = comb(total - number - 1, size - len(row) - 2)
        row.append(number)
        total -= number
    return tuple(row) + (total,)


def rank_of_part(row):
    """How many tuples of as many numbers with the same sum stand ahead of one."""
    rank = 0
    total = sum(row)
    for index, number in enumerate(row):
        left = len(row) - index - 1
        rank += comb(total - 1, left) - comb(total - number, left)
        total -= number
    return rank


def count_of_parts(parts):
    """How many rows have such parts."""
    return product_of([count_part(size, total) for size, total in parts])


def least_of_parts(parts):
    """The least row with such parts."""
    row = []
    for size, total in parts:
        row.extend([1] * (size - 1))
        row.append(total - size + 1)
    return tuple(row)


def row_of_parts(parts, rank):
    """The row with such parts that rank others stand ahead of, None if there is none."""
    pieces = []
    for size, total in reversed(parts):
        rank, index = divmod(rank, count_part(size, total))
        pieces.append(part_at(size, total, index))
    if rank > 0:
        return None
    return tuple([number for piece in reversed(pieces) for number in piece])


def count_rules(one, other):
    """How many rows say one to other."""
    parts = parts_between(one, other)
    if parts is None:
        return 0
    return count_of_parts(parts)


def least_rule(one, other):
    """The least row that says one to other, None if there is none."""
    parts = parts_between(one, other)
    if parts is None:
        return None
    return least_of_parts(parts)


def greatest_rule(one, other):
    """The greatest row that says one to other, None if there is none."""
    parts = parts_between(one, other)
    if parts is None:
        return None
    row = []
    for size, total in parts:
        row.append(total - size + 1)
        row.extend([1] * (size - 1))
    return tuple(row)


def rule_at(one, other, rank):
    """The row from one to other that so many others stand ahead of, None if there is none."""
    parts = parts_between(one, other)
    check_number_from(rank, 0)
    if parts is None:
        return None
    return row_of_parts(parts, rank)


def rank_of_rule(one, other, told):
    """How many rows from one to other stand ahead of the row told, None if that is none."""
    parts = parts_between(one, other)
    if not are_numbers_from(told, 1):
        raise BadNumber()
    if parts is None or len(told) != sum([size for size, total in parts]):
        return None
    rank = 0
    start = 0
    for size, total in parts:
        piece = told[start:start + size]
        if sum(piece) != total:
            return None
        rank = rank * count_part(size, total) + rank_of_part(piece)
        start += size
    return rank


def bar(one, other):
    """Why there is no row from one to other: "core" or the number of a gap; None if there is one."""
    rows = gaps_in_one_core([one, other])
    if rows is None:
        return "core"
    for number, (less, more) in enumerate(zip(rows[0], rows[1]), start=1):
        if less > more:
            return number
    return None


def says(rule, one, other):
    """Whether a rule, perhaps with zeros, says one to other."""
    check_rule(rule)
    check_word(one)
    check_word(other)
    # The lengths are compared first, because the said word may be too long to be written.
    return length_of_said(rule, one) == len(other) and said_word(rule, one) == other


def check_pairs(pairs):
    """Raise BadPairs or BadWord for a value that is no tuple of pairs of words."""
    if not is_tuple_of(pairs, 1, MOST_PAIRS):
        raise BadPairs(None)
    for index, pair in enumerate(pairs):
        if not is_tuple_of(pair, 2, 2):
            raise BadPairs(index)
        for word in pair:
            check_word(word)


def common_sums(pairs):
    """Where a rule puts the marks of the first words to say them to the second ones, None if none can."""
    sums = {}
    for one, other in pairs:
        if core_of(one) != core_of(other):
            return None
        for mark, place in zip(marks_of(one), marks_of(other)):
            if sums.setdefault(mark, place) != place:
                return None
    return sums


def common_parts(pairs):
    """The parts of the rows that say the first word of each pair to its second one, None if there are no rows."""
    sums = common_sums(pairs)
    if sums is None:
        return None
    marks = sorted(sums)
    parts = [(high - low, sums[high] - sums[low]) for low, high in zip(marks, marks[1:])]
    if not all([size <= total for size, total in parts]):
        return None
    return parts


def count_common(pairs):
    """How many rows say the first word of each pair to its second one."""
    check_pairs(pairs)
    parts = common_parts(pairs)
    if parts is None:
        return 0
    return count_of_parts(parts)


def common_rule(pairs):
    """The least row that says the first word of each pair to its second one, None if there is none."""
    check_pairs(pairs)
    parts = common_parts(pairs)
    if parts is None:
        return None
    return least_of_parts(parts)
