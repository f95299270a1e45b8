"""The game in which two players take levels out of a core in turn."""

from saidcounts.ends import put_ends
from saidcounts.levels import check_few_levels
from saidcounts.marks import check_core, core_to, ends_of, marks_to

MOST_LEVELS_PLAYED = 9


def turns_of(core):
    """The cores that a turn can leave of a core, by the level."""
    ends = ends_of(core)
    marks = marks_to(ends)
    found = []
    for level in range(1, len(marks)):
        # All gaps of a core are 1: without a level all marks from its number on are less by 1.
        places = {mark: mark - 1 if mark >= level else mark for mark in marks}
        found.append(core_to(put_ends(ends, places)))
    return found


def add_turns(core, known):
    """Add to a table the turns of a core and of all cores that turns lead to."""
    if core not in known:
        turns = turns_of(core)
        known[core] = turns
        for turn in turns:
            add_turns(turn, known)


def values_below(word, value_of):
    """For a core and all that turns lead to: what a function makes of the list of the values of its turns."""
    check_core(word)
    check_few_levels(word, MOST_LEVELS_PLAYED)
    known = {}
    add_turns(word, known)
    values = {}
    # A turn leaves fewer letters, so that the values of the turns are there when they are asked for.
    for core in sorted(known, key=len):
        values[core] = value_of([values[turn] for turn in known[core]])
    return values


def least_missing(numbers):
    """The least number from 0 on that is not in a list."""
    number = 0
    while number in numbers:
        number += 1
    return number


def lengths_from(lengths):
    """The pair of the fewest and the most turns to the end, from those of all turns; no turn is the end."""
    if not lengths:
        return (0, 0)
    return (min([fewest for fewest, most in lengths]) + 1, max([most for fewest, most in lengths]) + 1)


def paths_from(paths):
    """In how many ways turns lead to the end, from those of all turns; no turn is the end."""
    if not paths:
        return 1
    return sum(paths)


def fall_turns(word):
    """The cores that a turn can leave, by the level."""
    check_core(word)
    return tuple(turns_of(word))


def fall_nim(word):
    """The nim number of a core in this game."""
    return values_below(word, least_missing)[word]


def fall_wins(word):
    """Whether who is to turn wins."""
    return fall_nim(word) != 0


def best_fall(word):
    """The least level that leaves a core with which the other one loses, None if there is none."""
    nims = values_below(word, least_missing)
    for level, turn in enumerate(turns_of(word), start=1):
        if nims[turn] == 0:
            return level
    return None


def fall_lengths(word):
    """The pair of the fewest and the most turns that lead to the empty word."""
    return values_below(word, lengths_from)[word]


def fall_paths(word):
    """How many rows of levels, taken out one after the other, lead to the empty word."""
    return values_below(word, paths_from)[word]
