"""Runs, marks, gaps, cores and levels of words."""

from saidcounts.checks import LETTERS, are_numbers_from, check_length, check_number_from, check_word
from saidcounts.errors import BadCore, BadGaps


def runs_of(word):
    """The longest pieces of like letters, as pairs of a letter and a number."""
    found = []
    start = 0
    for place in range(1, len(word) + 1):
        if place == len(word) or word[place] != word[start]:
            found.append((word[start], place - start))
            start = place
    return found


def ends_of(word):
    """For each run the pair of its letter and how often that stands up to the end of the run."""
    stood = {letter: 0 for letter in LETTERS}
    ends = []
    for letter, size in runs_of(word):
        stood[letter] += size
        ends.append((letter, stood[letter]))
    return ends


def marks_to(ends):
    """The marks, ascending, of a word whose runs are told by the pairs of letter and end."""
    return tuple(sorted(set([0] + [end for letter, end in ends])))


def marks_of(word):
    """The marks of a word, ascending."""
    return marks_to(ends_of(word))


def gaps_to(ends):
    """The differences of neighbor marks of a word whose runs are told by the pairs of letter and end."""
    found = marks_to(ends)
    return tuple([high - low for low, high in zip(found, found[1:])])


def gaps_of(word):
    """The differences of neighbor marks of a word."""
    return gaps_to(ends_of(word))


def runs_to(ends):
    """The pairs of letter and number of runs that are told by the pairs of letter and end."""
    stood = {letter: 0 for letter in LETTERS}
    found = []
    for letter, end in ends:
        found.append((letter, end - stood[letter]))
        stood[letter] = end
    return found


def written(pieces):
    """The word that pairs of a letter and a number tell."""
    return "".join([letter * size for letter, size in pieces])


def moved(word, places):
    """The word with the same runs, but with their ends where the table of places puts them."""
    return written(runs_to([(letter, places[end]) for letter, end in ends_of(word)]))


def core_to(ends):
    """The core of a word whose runs are told by the pairs of letter and end."""
    index = {mark: place for place, mark in enumerate(marks_to(ends))}
    return written(runs_to([(letter, index[end]) for letter, end in ends]))


def core_of(word):
    """The core of a word."""
    return core_to(ends_of(word))


def sums_of(told):
    """The sums of the first numbers of a tuple: of none of them, of one, and on to all."""
    sums = [0]
    for number in told:
        sums.append(sums[-1] + number)
    return sums


def regapped(word, told):
    """The word that has the core of a word, but told gaps, however long it is."""
    sums = sums_of(told)
    return moved(word, {mark: sums[index] for index, mark in enumerate(marks_of(word))})


def length_with_gaps(word, told):
    """How many letters the word with a core and gaps has."""
    sums = sums_of(told)
    return sum([sums[word.count(letter)] for letter in LETTERS])


def level_by_number(word):
    """The level of the letter that comes for the first time, for the second time, and on to the last mark."""
    found = []
    for level, gap in enumerate(gaps_of(word), start=1):
        found.extend([level] * gap)
    return found


def check_core(word):
    """Raise BadWord or BadCore for a value that is no word that is its own core."""
    check_word(word)
    if core_of(word) != word:
        raise BadCore()


def check_gaps(word, told):
    """Raise BadGaps for a value that is no tuple of gaps for a core."""
    many = max([word.count(letter) for letter in LETTERS])
    if not are_numbers_from(told, 1) or len(told) != many:
        raise BadGaps()


def runs(word):
    """The pairs of letter and number of the longest pieces of like letters, in order."""
    check_word(word)
    return tuple(runs_of(word))


def marks(word):
    """The marks of a word, ascending."""
    check_word(word)
    return marks_of(word)


def gaps(word):
    """The differences of neighbor marks of a word, the first one first."""
    check_word(word)
    return gaps_of(word)


def core(word):
    """The word with the same runs in which each mark is replaced by its index."""
    check_word(word)
    return core_of(word)


def is_core(word):
    """Whether a word is its own core."""
    check_word(word)
    return core_of(word) == word


def from_gaps(word, told):
    """The word that has a core and gaps."""
    check_core(word)
    check_gaps(word, told)
    check_length(length_with_gaps(word, told))
    return regapped(word, told)


def level_of(word, place):
    """The level in which the letter at a place lies, None if the word has no such place."""
    check_word(word)
    check_number_from(place, 0)
    if place >= len(word):
        return None
    number = word[:place + 1].count(word[place])
    return level_by_number(word)[number - 1]


def level_words(word):
    """For each level the word of the letters that lie in it."""
    check_word(word)
    parts = [[] for gap in gaps_of(word)]
    levels = level_by_number(word)
    stood = {letter: 0 for letter in LETTERS}
    for letter in word:
        parts[levels[stood[letter]] - 1].append(letter)
        stood[letter] += 1
    return tuple(["".join(part) for part in parts])


def widest(word):
    """The pair of level and gap of the first one of the greatest gaps, None for the empty word."""
    check_word(word)
    found = gaps_of(word)
    if not found:
        return None
    gap = max(found)
    return (found.index(gap) + 1, gap)
