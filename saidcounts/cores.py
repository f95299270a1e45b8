"""Cores counted, and the words with one core counted by their lengths."""

from itertools import combinations
from math import gcd

from saidcounts.checks import LETTERS, MOST_LETTERS, are_numbers_between, check_kinds, check_number, is_tuple_of
from saidcounts.errors import BadNumber, TooLong
from saidcounts.marks import check_core, core_of
from saidcounts.order import orders_of, product_of

MOST_LETTERS_OF_CORES = 12
MOST_CORES_LOOKED_AT = 5000
GREATEST_TOLD = 8
MOST_LETTERS_LISTED = 200
MOST_ROWS = 5000


def check_told(told):
    """Raise BadNumber for a value that does not tell for one to four letters how often they stand."""
    if not is_tuple_of(told, 1, len(LETTERS)) or not are_numbers_between(told, 0, GREATEST_TOLD):
        raise BadNumber()


def ways_within(told, marks):
    """How many words with told counts of letters have no marks but 0 and those of a row."""
    if not all([count == 0 or count in marks for count in told]):
        return 0
    # No run ends between two neighbor marks, so that the letters there stand together as one piece.
    return orders_of([len([mark for mark in marks if mark <= count]) for count in told])


def sums_within(told, marks):
    """For 0, 1, .. to all of some marks: the sum, over all choices of so many of them, of the words within these."""
    choices = list(marks)
    found = []
    for size in range(len(choices) + 1):
        found.append(sum([ways_within(told, lot) for lot in combinations(choices, size)]))
    return found


def ways_exact(told, marks):
    """How many words with told counts of letters have just the marks of a row and 0."""
    # Words that miss some of the marks are, by turns, taken away and put back.
    total = 0
    for words in sums_within(told, marks):
        total = words - total
    return total


def coins_of(core):
    """For each level of a core how many letters stand at least so many times in it."""
    stands = [core.count(letter) for letter in LETTERS]
    return [len([count for count in stands if count >= level]) for level in range(1, max(stands) + 1)]


def with_one_coin(ways, coin):
    """In how many ways 0, 1, .. are paid with one more coin, if they are paid in so many without it."""
    more = list(ways)
    for paid in range(coin, len(ways)):
        more[paid] += more[paid - coin]
    return more


def ways_to_pay(sizes, most):
    """In how many ways coins of some sizes, each any number of times, pay 0, 1, .. to the most."""
    ways = [1] + [0] * most
    for size in sizes:
        ways = with_one_coin(ways, size)
    return ways


def ways_behind_each(sizes, most):
    """For each of some coins in how many ways those behind it pay 0, 1, .. to the most."""
    tables = [ways_to_pay([], most)]
    for size in reversed(sizes[1:]):
        tables.append(with_one_coin(tables[-1], size))
    return list(reversed(tables))


def rows_of_length(core, size):
    """The rows of gaps, ascending, of the words with a core that have so many letters."""
    if size < len(core):
        return []
    sizes = coins_of(core)
    found = [((), size - len(core))]
    for coin, ways in zip(sizes, ways_behind_each(sizes, size - len(core))):
        found = [
            (row + (rise + 1,), left - rise * coin)
            for row, left in found
            for rise in range(left // coin + 1)
            if ways[left - rise * coin] > 0
        ]
    return [row for row, left in found if left == 0]


def count_with_length(core, size):
    """How many words with a core have so many letters."""
    if size < len(core):
        return 0
    return ways_to_pay(coins_of(core), size - len(core))[-1]


def cores_of_length(size, many):
    """The cores of so many letters, all among the first many ones, ascending."""
    check_number(size, 0, MOST_LETTERS_OF_CORES)
    check_kinds(many)
    if product_of([many] * size) > MOST_CORES_LOOKED_AT:
        raise TooLong(MOST_CORES_LOOKED_AT)
    words = [""]
    for _ in range(size):
        words = [word + letter for word in words for letter in LETTERS[:many]]
    return [word for word in words if core_of(word) == word]


def count_cores(told):
    """How many cores there are in which the letters stand as often as a tuple tells."""
    check_told(told)
    return ways_exact(told, tuple(range(1, max(told) + 1)))


def coins(word):
    """For each level of a core how many letters stand at least so many times in it."""
    check_core(word)
    return tuple(coins_of(word))


def count_of_length(word, size):
    """How many words with the core have so many letters."""
    check_core(word)
    check_number(size, 0, MOST_LETTERS)
    return count_with_length(word, size)


def counts_to(word, most):
    """How many words with the core have 0, 1, .. to the most letters."""
    check_core(word)
    check_number(most, 0, MOST_LETTERS_LISTED)
    if most < len(word):
        return (0,) * (most + 1)
    return (0,) * len(word) + tuple(ways_to_pay(coins_of(word), most - len(word)))


def gaps_of_length(word, size):
    """The gaps of the words with the core that have so many letters, ascending."""
    check_core(word)
    check_number(size, 0, MOST_LETTERS_LISTED)
    if count_with_length(word, size) > MOST_ROWS:
        raise TooLong(MOST_ROWS)
    return rows_of_length(word, size)


def greatest_missing(word):
    """The greatest number of letters that no word with the core has, None if there is no greatest one."""
    check_core(word)
    kinds = sorted(set(coins_of(word)))
    unit = 0
    for coin in kinds:
        unit = gcd(unit, coin)
    if unit != 1:
        return None
    # Coins without a common divisor pay all from the square of the greatest one on.
    ways = ways_to_pay(kinds, kinds[-1] * kinds[-1])
    return len(word) + max([paid for paid, many in enumerate(ways) if many == 0], default=-1)
