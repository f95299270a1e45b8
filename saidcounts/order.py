"""Words with one core: their unsayings, joins and meets, and the least sayings between them."""

from math import comb

from saidcounts.checks import check_number_from, check_word, check_words
from saidcounts.errors import TooLong
from saidcounts.marks import core_of, gaps_of, regapped

MOST_UNSAYINGS = 5000
MOST_WORDS = 8


def product_of(numbers):
    """The product of a list of numbers, 1 for the empty one."""
    # Neighbors are multiplied first: numbers of like length meet, which is much faster if there are many.
    left = numbers + [1]
    while len(left) > 1:
        if len(left) % 2 == 1:
            left.append(1)
        left = [first * second for first, second in zip(left[::2], left[1::2])]
    return left[0]


def orders_of(numbers):
    """In how many orders steps can be done of which there are so many of each kind."""
    done = 0
    ways = 1
    for number in numbers:
        done += number
        ways *= comb(done, number)
    return ways


def gaps_in_one_core(words):
    """The gaps of each of some words, None if their cores are unlike; BadWord for the first that is no word."""
    for word in words:
        check_word(word)
    core = core_of(words[0])
    if not all([core_of(word) == core for word in words]):
        return None
    return [gaps_of(word) for word in words]


def growing_gaps(one, other):
    """The gaps of both words, None if one is no unsaying of other; BadWord for the first that is no word."""
    rows = gaps_in_one_core([one, other])
    if rows is None or not all([less <= more for less, more in zip(rows[0], rows[1])]):
        return None
    return rows


def differences(low, high):
    """By how much the gaps of two rows differ."""
    return [abs(more - less) for less, more in zip(low, high)]


def count_rows(low, high):
    """How many rows of gaps are not below the low ones and not above the high ones."""
    return product_of([more - less + 1 for less, more in zip(low, high)])


def row_at(low, high, rank):
    """Of the rows of gaps from the low to the high ones that behind so many, None if there are not so many."""
    row = []
    for less, more in reversed(list(zip(low, high))):
        rank, rise = divmod(rank, more - less + 1)
        row.append(less + rise)
    if rank > 0:
        return None
    return tuple(reversed(row))


def rank_of_row(low, high, row):
    """How many of the rows of gaps from the low to the high ones stand ahead of one of them."""
    rank = 0
    for less, more, gap in zip(low, high, row):
        rank = rank * (more - less + 1) + gap - less
    return rank


def least_gaps(word):
    """The gaps of the core of a word."""
    return tuple([1 for gap in gaps_of(word)])


def same_core(one, other):
    """Whether two words have the same core."""
    return gaps_in_one_core([one, other]) is not None


def is_saying(one, other):
    """Whether some rule without zeros says one to other."""
    return growing_gaps(one, other) is not None


def count_unsayings(word):
    """How many words some rule without zeros says to the word."""
    check_word(word)
    return product_of(list(gaps_of(word)))


def unsayings(word):
    """The words that some rule without zeros says to the word, by their gaps."""
    many = count_unsayings(word)
    if many > MOST_UNSAYINGS:
        raise TooLong(MOST_UNSAYINGS)
    low = least_gaps(word)
    high = gaps_of(word)
    return [regapped(word, row_at(low, high, rank)) for rank in range(many)]


def unsaying_at(word, rank):
    """The unsaying of the word that so many others stand ahead of, None if there is none."""
    check_word(word)
    check_number_from(rank, 0)
    row = row_at(least_gaps(word), gaps_of(word), rank)
    if row is None:
        return None
    return regapped(word, row)


def rank_of_unsaying(word, told):
    """How many unsayings of the word stand ahead of the word told, None if that is none."""
    check_word(word)
    rows = growing_gaps(told, word)
    if rows is None:
        return None
    return rank_of_row(least_gaps(word), rows[1], rows[0])


def join_of(words):
    """The shortest word of which all of some words are unsayings, None if their cores are unlike."""
    rows = gaps_in_one_core(words)
    if rows is None:
        return None
    return regapped(words[0], [max(column) for column in zip(*rows)])


def meet_of(words):
    """The longest word that is an unsaying of all of some words, None if their cores are unlike."""
    rows = gaps_in_one_core(words)
    if rows is None:
        return None
    return regapped(words[0], [min(column) for column in zip(*rows)])


def join(one, other):
    """The shortest word of which both words are unsayings, None if there is none."""
    return join_of((one, other))


def meet(one, other):
    """The longest word that is an unsaying of both words, None if there is none."""
    return meet_of((one, other))


def join_all(words):
    """The shortest word of which all words of a tuple are unsayings, None if there is none."""
    check_words(words, MOST_WORDS)
    return join_of(words)


def meet_all(words):
    """The longest word that is an unsaying of all words of a tuple, None if there is none."""
    check_words(words, MOST_WORDS)
    return meet_of(words)


def between(one, other):
    """How many words of which one is an unsaying are unsayings of other."""
    rows = growing_gaps(one, other)
    if rows is None:
        return 0
    return count_rows(rows[0], rows[1])


def steps(one, other):
    """In how many least sayings one comes to other, None if it does not."""
    rows = growing_gaps(one, other)
    if rows is None:
        return None
    return sum(differences(rows[0], rows[1]))


def chains(one, other):
    """In how many ways one comes to other by least sayings."""
    rows = growing_gaps(one, other)
    if rows is None:
        return 0
    return orders_of(differences(rows[0], rows[1]))


def signs(one, other):
    """The number of A. Mobius for the two words."""
    rows = growing_gaps(one, other)
    if rows is None:
        return 0
    # The order is a product of chains: there the number is that of each gap, multiplied, and 0 behind the first step.
    rises = differences(rows[0], rows[1])
    if rises and max(rises) > 1:
        return 0
    return -1 if sum(rises) % 2 == 1 else 1


def stepped(word, index, rise):
    """The word with one gap changed."""
    row = gaps_of(word)
    return regapped(word, row[:index] + (row[index] + rise,) + row[index + 1:])


def just_above(word):
    """The words to which one least saying leads from the word, by the number of the gap."""
    check_word(word)
    return tuple([stepped(word, index, 1) for index in range(len(gaps_of(word)))])


def just_below(word):
    """The words from which one least saying leads to the word, by the number of the gap."""
    check_word(word)
    return tuple([stepped(word, index, -1) for index, gap in enumerate(gaps_of(word)) if gap > 1])
