"""Tall words compared: joins, meets, unsayings, turns and scales."""

from math import gcd

from saidcounts.checks import GREATEST_COUNT, check_greatness, check_number, check_number_from, check_rule, check_word
from saidcounts.ends import check_tall, check_tall_gaps, said_ends, tall_ends, tall_to
from saidcounts.marks import ends_of
from saidcounts.order import differences, product_of, rank_of_row, row_at


def check_two_talls(word, told, more):
    """Raise BadWord, BadCore or BadGaps for the first of a core and two rows of gaps that is wrong."""
    check_tall(word, told)
    check_tall_gaps(word, more)


def grows(told, more):
    """Whether no gap of one row is greater than that of another one."""
    return all([gap <= greater for gap, greater in zip(told, more)])


def bare(told):
    """As many gaps of 1 as there are gaps."""
    return (1,) * len(told)


def nim_of(told):
    """The nim number of a word with gaps: each gap is a heap that is lessened to 1 at the least."""
    number = 0
    for gap in told:
        number ^= gap - 1
    return number


def good_turns_of(told, number):
    """The turns, as pairs of level and gap that is left, that change the nim number of some gaps by a number."""
    found = []
    for level, gap in enumerate(told, start=1):
        # The heap that is left is to be worth as much as all others together.
        left = (number ^ (gap - 1)) + 1
        if left < gap:
            found.append((level, left))
    return found


def tall_of(word):
    """The pair of the core and the gaps of a word."""
    check_word(word)
    return tall_to(ends_of(word))


def tall_any(rule, word, told):
    """The pair of the core and the gaps of a tall word said by a rule."""
    check_rule(rule)
    check_tall(word, told)
    core, gaps = tall_to(said_ends(rule, tall_ends(word, told)))
    check_greatness(max(gaps, default=0))
    return (core, gaps)


def tall_join(word, told, more):
    """The gaps of the least common saying of two tall words with one core."""
    check_two_talls(word, told, more)
    return tuple([max(gap, other) for gap, other in zip(told, more)])


def tall_meet(word, told, more):
    """The gaps of the greatest common unsaying of two tall words with one core."""
    check_two_talls(word, told, more)
    return tuple([min(gap, other) for gap, other in zip(told, more)])


def tall_grows(word, told, more):
    """Whether the second of two tall words with one core is a saying of the first one."""
    check_two_talls(word, told, more)
    return grows(told, more)


def tall_distance(word, told, more):
    """In how many steps one of two tall words with one core comes to the other one."""
    check_two_talls(word, told, more)
    return sum(differences(told, more))


def tall_unsayings(word, told):
    """How many unsayings a tall word has."""
    check_tall(word, told)
    return product_of(list(told))


def tall_unsaying(word, told, rank):
    """The gaps of the unsaying of a tall word that so many others stand ahead of, None if there is none."""
    check_tall(word, told)
    check_number_from(rank, 0)
    return row_at(bare(told), told, rank)


def tall_rank(word, told, less):
    """How many unsayings of a tall word stand ahead of the one with the gaps less, None if that is none."""
    check_two_talls(word, told, less)
    if not grows(less, told):
        return None
    return rank_of_row(bare(told), told, less)


def tall_nim(word, told):
    """The nim number of a tall word."""
    check_tall(word, told)
    return nim_of(told)


def tall_turn(word, told):
    """The first turn, as a pair of level and gap, that leaves a word with the nim number 0, None if there is none."""
    check_tall(word, told)
    found = good_turns_of(told, nim_of(told))
    return found[0] if found else None


def scaled(word, told, many):
    """The gaps of the tall word said by the rule whose numbers are all the same."""
    check_tall(word, told)
    check_number(many, 1, GREATEST_COUNT)
    check_greatness(max(told, default=0) * many)
    return tuple([gap * many for gap in told])


def unit_of(word, told):
    """The greatest number by which told gaps are scaled, and the gaps that it scales to them."""
    check_tall(word, told)
    if not told:
        return (1, ())
    many = 0
    for gap in told:
        many = gcd(many, gap)
    return (many, tuple([gap // many for gap in told]))
