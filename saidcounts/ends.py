"""Words that are not written, but told by the pairs of letter and end of their runs."""

from saidcounts.checks import GREATEST_COUNT, LETTERS
from saidcounts.errors import BadGaps
from saidcounts.marks import check_core, check_gaps, core_to, ends_of, gaps_to, runs_to, sums_of
from saidcounts.words import sum_of_first


def check_tall_gaps(word, told):
    """Raise BadGaps for a value that is no tuple of gaps of a tall word with a core."""
    check_gaps(word, told)
    if not all([gap <= GREATEST_COUNT for gap in told]):
        raise BadGaps()


def check_tall(word, told):
    """Raise BadWord or BadCore for a value that is no core, then BadGaps for one that is no gaps of a tall word."""
    check_core(word)
    check_tall_gaps(word, told)


def tall_ends(word, told):
    """The ends of the runs of a tall word."""
    sums = sums_of(told)
    return [(letter, sums[end]) for letter, end in ends_of(word)]


def tall_runs(word, told):
    """The runs of a tall word."""
    return runs_to(tall_ends(word, told))


def put_ends(ends, places):
    """The ends of runs that are put where a table tells; runs may fall away or come together."""
    stood = {letter: 0 for letter in LETTERS}
    found = []
    for letter, end in ends:
        place = places[end]
        if place > stood[letter]:
            stood[letter] = place
            if found and found[-1][0] == letter:
                found.pop()
            found.append((letter, place))
    return found


def said_ends(rule, ends):
    """The ends of the runs of a word that is said by a rule."""
    return put_ends(ends, {end: sum_of_first(rule, end) for letter, end in ends})


def tall_to(ends):
    """The pair of the core and the gaps of a word with such ends."""
    return (core_to(ends), gaps_to(ends))
