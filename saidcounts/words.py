"""Words, rules, and words said by rules."""

from saidcounts.checks import GREATEST_COUNT, LETTERS, MOST_LETTERS, is_number, is_tuple_of
from saidcounts.checks import check_length, check_number, check_rule, check_word
from saidcounts.errors import BadNumber


def number_of(rule, number):
    """The rule's number of that name."""
    return rule[min(number, len(rule)) - 1]


def sum_of_first(rule, count):
    """The sum of so many first numbers of a rule."""
    written = min(count, len(rule))
    return sum(rule[:written]) + (count - written) * rule[-1]


def length_of_said(rule, word):
    """How many letters a word has when a rule has said it."""
    return length_of_said_each([rule] * len(LETTERS), word)


def length_of_said_each(rules, word):
    """How many letters a word has when each letter has been said by its own rule."""
    return sum([sum_of_first(rule, word.count(letter)) for letter, rule in zip(LETTERS, rules)])


def said_word(rule, word):
    """The word said by a rule, however long it is."""
    return said_word_each([rule] * len(LETTERS), word)


def said_word_each(rules, word):
    """The word each letter of which is said by its own rule, however long it is."""
    stood = {letter: 0 for letter in LETTERS}
    parts = []
    for letter in word:
        stood[letter] += 1
        parts.append(letter * number_of(rules[LETTERS.index(letter)], stood[letter]))
    return "".join(parts)


def times(rule, number):
    """How many times a letter is said when it comes for the number-th time."""
    check_rule(rule)
    check_number(number, 1, GREATEST_COUNT)
    return number_of(rule, number)


def rule_sum(rule, count):
    """The sum of so many first numbers of a rule."""
    check_rule(rule)
    check_number(count, 0, GREATEST_COUNT)
    return sum_of_first(rule, count)


def said(rule, word):
    """The word said by the rule."""
    check_rule(rule)
    check_word(word)
    check_length(length_of_said(rule, word))
    return said_word(rule, word)


def length_said(rule, word):
    """How many letters the word said by the rule has."""
    check_rule(rule)
    check_word(word)
    return length_of_said(rule, word)


def counts(word):
    """How often a, b, c, d stand in a word."""
    check_word(word)
    return tuple([word.count(letter) for letter in LETTERS])


def walk(word):
    """The counts of all beginnings of a word, from the empty one to the whole one."""
    check_word(word)
    point = [0, 0, 0, 0]
    points = [tuple(point)]
    for letter in word:
        point[LETTERS.index(letter)] += 1
        points.append(tuple(point))
    return tuple(points)


def is_point(value):
    """Whether a value is a tuple of an integer for each letter."""
    return is_tuple_of(value, len(LETTERS), len(LETTERS)) and all([is_number(item) for item in value])


def check_points(points):
    """Raise BadNumber for a value that is no tuple of points, one for each beginning of a word."""
    if not is_tuple_of(points, 1, MOST_LETTERS + 1) or not all([is_point(point) for point in points]):
        raise BadNumber()


def letter_between(here, there):
    """The letter by which a walk comes from one point to the next one, None if no letter does."""
    rises = [high - low for low, high in zip(here, there)]
    if sorted(rises) != [0, 0, 0, 1]:
        return None
    return LETTERS[rises.index(1)]


def from_walk(points):
    """The word with a told walk, None if it is that of no word."""
    check_points(points)
    if points[0] != (0, 0, 0, 0):
        return None
    letters = [letter_between(here, there) for here, there in zip(points, points[1:])]
    if None in letters:
        return None
    return "".join(letters)
