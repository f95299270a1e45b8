"""Words each letter of which is said by its own rule."""

from saidcounts.checks import LETTERS, check_length, check_rules, check_word
from saidcounts.marks import ends_of, runs_of, written
from saidcounts.rules import count_of_parts, least_of_parts
from saidcounts.words import length_of_said_each, said_word_each


def runs_of_both(one, other):
    """For each run its letter, its number in one and its number in other, None if the runs are of unlike letters."""
    check_word(one)
    check_word(other)
    first = runs_of(one)
    second = runs_of(other)
    if [letter for letter, size in first] != [letter for letter, size in second]:
        return None
    return [(letter, size, more) for (letter, size), (another, more) in zip(first, second)]


def growing_runs(one, other):
    """The same as runs_of_both, but None if a run shrinks, too."""
    found = runs_of_both(one, other)
    if found is None or not all([size <= more for letter, size, more in found]):
        return None
    return found


def said_each(rules, word):
    """The word each letter of which is said by its own rule."""
    check_rules(rules)
    check_word(word)
    check_length(length_of_said_each(rules, word))
    return said_word_each(rules, word)


def can_each(one, other):
    """Whether four rules without zeros say one to other."""
    return growing_runs(one, other) is not None


def count_each(one, other):
    """How many tuples of four rows say one to other."""
    found = growing_runs(one, other)
    if found is None:
        return 0
    return count_of_parts([(size, more) for letter, size, more in found])


def rows_each(one, other):
    """The four rows that say one to other each of which is the least one, None if there are none."""
    found = growing_runs(one, other)
    if found is None:
        return None
    parts = {letter: [] for letter in LETTERS}
    for letter, size, more in found:
        parts[letter].append((size, more))
    return tuple([least_of_parts(parts[letter]) for letter in LETTERS])


def join_each(one, other):
    """The shortest word to which four rules each say one and other, None if there is none."""
    found = runs_of_both(one, other)
    if found is None:
        return None
    return written([(letter, max(size, more)) for letter, size, more in found])


def meet_each(one, other):
    """The longest word that is said to one and to other by four rules each, None if there is none."""
    found = runs_of_both(one, other)
    if found is None:
        return None
    return written([(letter, min(size, more)) for letter, size, more in found])


def bare_word(word):
    """The word with one letter of each run."""
    check_word(word)
    return "".join([letter for letter, size in runs_of(word)])


def marks_each(word):
    """For each letter 0 and how often it has stood behind each run of it, ascending."""
    check_word(word)
    ends = ends_of(word)
    return tuple([tuple([0] + [end for told, end in ends if told == letter]) for letter in LETTERS])
