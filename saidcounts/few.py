"""Sayings by rules with bounded numbers, and the list of all rows between two words."""

from math import comb

from saidcounts.checks import check_number
from saidcounts.errors import TooLong
from saidcounts.marks import regapped
from saidcounts.order import growing_gaps, product_of
from saidcounts.rules import count_of_parts, parts_between, row_of_parts

LEAST_BOUND = 2
GREATEST_BOUND = 1000
MOST_ROWS = 3000


def stages(one, other, bound):
    """The gaps on the way from one to other, as great as can be at each stop, None if one does not come there."""
    rows = growing_gaps(one, other)
    check_number(bound, LEAST_BOUND, GREATEST_BOUND)
    if rows is None:
        return None
    low, high = rows
    found = [low]
    while found[-1] != high:
        found.append(tuple([min(goal, bound * gap) for gap, goal in zip(found[-1], high)]))
    return found


def fast_part(size, total, bound):
    """So many numbers with a sum, each of them the bound or as great as can be, the first one first."""
    part = []
    for left in reversed(range(size)):
        part.append(min(bound, total - left))
        total -= part[-1]
    return part


def fast_row(low, high, bound):
    """The row by which gaps grow, with numbers that are greater the further ahead they stand in their gap."""
    return tuple([number for size, total in zip(low, high) for number in fast_part(size, total, bound)])


def fewest_sayings(one, other, bound):
    """In how few sayings with numbers up to a bound one comes to other, None if it does not."""
    found = stages(one, other, bound)
    if found is None:
        return None
    return len(found) - 1


def sayings_to(one, other, bound):
    """The rows with numbers up to a bound that take one to other in as few sayings as can be, None if none do."""
    found = stages(one, other, bound)
    if found is None:
        return None
    return tuple([fast_row(low, high, bound) for low, high in zip(found, found[1:])])


def stops_on_the_way(one, other, bound):
    """The words to which the rows of sayings_to lead, one and other included, None if one does not come there."""
    found = stages(one, other, bound)
    if found is None:
        return None
    return [regapped(one, row) for row in found]


def count_small_part(size, total, bound):
    """How many tuples of so many numbers from 1 to a bound have a sum."""
    # Tuples in which some chosen numbers are above the bound are those of a sum that is less by the bound for each of
    # them; with as many of them added as are taken away, only the tuples without such a number are left.
    many = 0
    sign = 1
    for above in range(min(size, (total - size) // bound) + 1):
        many += sign * comb(size, above) * comb(total - above * bound - 1, size - 1)
        sign = -sign
    return many


def count_small(one, other, bound):
    """How many rows of numbers up to a bound say one to other."""
    parts = parts_between(one, other)
    check_number(bound, LEAST_BOUND, GREATEST_BOUND)
    if parts is None:
        return 0
    return product_of([count_small_part(size, total, bound) for size, total in parts])


def all_rules(one, other):
    """All rows that say one to other, ascending."""
    parts = parts_between(one, other)
    if parts is None:
        return []
    many = count_of_parts(parts)
    if many > MOST_ROWS:
        raise TooLong(MOST_ROWS)
    return [row_of_parts(parts, rank) for rank in range(many)]
