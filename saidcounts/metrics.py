"""Steps between words with one core: distances, ways, and what lies on them."""

from saidcounts.checks import check_number, check_number_from, check_word
from saidcounts.errors import TooLong
from saidcounts.marks import gaps_of, regapped
from saidcounts.order import differences, gaps_in_one_core, growing_gaps, orders_of, row_at

MOST_STEPS = 300


def distance(one, other):
    """In how many steps, at least, a word comes to another one, None if their cores are unlike."""
    rows = gaps_in_one_core([one, other])
    if rows is None:
        return None
    return sum(differences(rows[0], rows[1]))


def count_ways(one, other):
    """In how many ways a word comes to another one with as few steps as can be."""
    rows = gaps_in_one_core([one, other])
    if rows is None:
        return 0
    return orders_of(differences(rows[0], rows[1]))


def rows_on_way(low, high):
    """The rows of gaps on the way on which the first gap that differs is stepped until it does not."""
    row = list(low)
    rows = [tuple(row)]
    for index, goal in enumerate(high):
        while row[index] != goal:
            row[index] += 1 if row[index] < goal else -1
            rows.append(tuple(row))
    return rows


def way_to(one, other):
    """The words on the way from one to other, gap by gap, None if their cores are unlike."""
    rows = gaps_in_one_core([one, other])
    if rows is None:
        return None
    if sum(differences(rows[0], rows[1])) > MOST_STEPS:
        raise TooLong(MOST_STEPS)
    return [regapped(one, row) for row in rows_on_way(rows[0], rows[1])]


def middle(one, other, third):
    """The word that lies on shortest ways between each two of three words, None unless they have one core."""
    rows = gaps_in_one_core([one, other, third])
    if rows is None:
        return None
    return regapped(one, [sorted(column)[1] for column in zip(*rows)])


def is_between(one, word, other):
    """Whether the word lies on a shortest way from one to other."""
    rows = gaps_in_one_core([one, word, other])
    if rows is None:
        return False
    return all([sorted(column)[1] == column[1] for column in zip(*rows)])


def word_between(one, other, rank):
    """The word behind so many of those from one to other, by their gaps, None if there are not so many."""
    rows = growing_gaps(one, other)
    check_number_from(rank, 0)
    if rows is None:
        return None
    row = row_at(rows[0], rows[1], rank)
    if row is None:
        return None
    return regapped(one, row)


def ways_with_gap(ways, gap):
    """How many rows of gaps are just 0, 1, .. steps away, when one more gap may be stepped."""
    # A gap comes up by any number and down by less than itself: with the steps as powers of x these are
    # (1 + x - x ** gap) / (1 - x), so that sums, on and on, take the place of a product.
    found = []
    so_far = 0
    for far, here in enumerate(ways):
        so_far += here
        if far >= 1:
            so_far += ways[far - 1]
        if far >= gap:
            so_far -= ways[far - gap]
        found.append(so_far)
    return found


def within(word, far):
    """How many words with the core of the word are at most so many steps from it."""
    check_word(word)
    check_number(far, 0, MOST_STEPS)
    ways = [1] + [0] * far
    for gap in gaps_of(word):
        ways = ways_with_gap(ways, gap)
    return sum(ways)


def nearest_core(word):
    """How many steps the word is from its core."""
    check_word(word)
    return sum(gaps_of(word)) - len(gaps_of(word))
