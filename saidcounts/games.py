"""Games in which two players let one gap of a word become less, or greater, in turn."""

from saidcounts.checks import check_number, check_word, check_words
from saidcounts.ends import tall_runs
from saidcounts.errors import BadNumber
from saidcounts.marks import core_of, gaps_of, written
from saidcounts.order import stepped
from saidcounts.talls import good_turns_of, nim_of

MOST_WORDS = 6
GREATEST_BOUND = 2000


def with_one_gap(word, options):
    """The words that come of a word when one gap becomes one of those in the list for its level."""
    core = core_of(word)
    told = gaps_of(word)
    found = []
    for index, gaps in enumerate(options):
        for gap in gaps:
            found.append(written(tall_runs(core, told[:index] + (gap,) + told[index + 1:])))
    return found


def gaps_side_by_side(words):
    """The gaps of all words of a tuple; the errors are those of the tuple."""
    check_words(words, MOST_WORDS)
    return [gap for word in words for gap in gaps_of(word)]


def check_bound(bound, told):
    """Raise BadNumber for a value that is no bound that some gaps can grow to."""
    check_number(bound, 1, GREATEST_BOUND)
    if max(told, default=0) > bound:
        raise BadNumber()


def moves(word):
    """The words that a turn can make, by the number of the level, then by the gap that is left."""
    check_word(word)
    return with_one_gap(word, [list(range(1, gap)) for gap in gaps_of(word)])


def nim(word):
    """The nim number of a word."""
    check_word(word)
    return nim_of(gaps_of(word))


def nim_sum(words):
    """The nim number of words side by side."""
    return nim_of(gaps_side_by_side(words))


def wins(words):
    """Whether who is to turn wins with words side by side."""
    return nim_of(gaps_side_by_side(words)) != 0


def good_turns(words):
    """The turns that win, as pairs of the index of the word and the word that it becomes."""
    number = nim_of(gaps_side_by_side(words))
    found = []
    for index, word in enumerate(words):
        told = gaps_of(word)
        for level, left in good_turns_of(told, number):
            found.append((index, stepped(word, level - 1, left - told[level - 1])))
    return found


def wins_last(words):
    """Whether who is to turn wins with words side by side, if who cannot turn wins."""
    told = gaps_side_by_side(words)
    if max(told, default=0) > 2:
        # Who wins otherwise can here, too, leave at the last great gap an even or an odd number of small ones.
        return nim_of(told) != 0
    return nim_of(told) == 0


def nim_up(word, bound):
    """The nim number of a word if a turn lets one gap grow to any number up to the bound."""
    check_word(word)
    told = gaps_of(word)
    check_bound(bound, told)
    return nim_of([bound - gap + 1 for gap in told])


def moves_up(word, bound):
    """The words that a turn can make if it lets one gap grow to any number up to the bound."""
    check_word(word)
    told = gaps_of(word)
    check_bound(bound, told)
    return with_one_gap(word, [list(range(gap + 1, bound + 1)) for gap in told])


def nim_few(word, most):
    """The nim number of a word if a turn lessens one gap by at most so many."""
    check_word(word)
    check_number(most, 1, GREATEST_BOUND)
    return nim_of([(gap - 1) % (most + 1) + 1 for gap in gaps_of(word)])


def wins_any(word):
    """Whether who is to turn wins if a turn makes any other unsaying of the word."""
    check_word(word)
    # A turn can make the core at once, and behind that there is none.
    return core_of(word) != word
