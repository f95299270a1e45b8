"""Levels that fall: what is left without them, loose rows, and what a rule says to a word."""

from itertools import combinations
from math import comb

from saidcounts.checks import LETTERS, check_length, check_number, check_rule, check_word, is_number_from
from saidcounts.errors import BadLevels, TooLong, TooMany
from saidcounts.marks import check_core, core_of, gaps_of, marks_of, moved, regapped
from saidcounts.order import product_of
from saidcounts.quotients import least_put_to
from saidcounts.words import number_of, sum_of_first

MOST_LEVELS = 10
MOST_LETTERS_UNDONE = 10
MOST_UNDOINGS = 3000
START = (0, 0, 0, 0)


def check_levels(levels, many):
    """Raise BadLevels for a value that is no rising tuple of numbers of so many levels."""
    if not isinstance(levels, tuple) or not all([is_number_from(level, 1) for level in levels]):
        raise BadLevels()
    if not all([low < high for low, high in zip(levels, levels[1:] + (many + 1,))]):
        raise BadLevels()


def check_few_levels(word, most):
    """Raise TooMany for a word of more than most levels."""
    if len(gaps_of(word)) > most:
        raise TooMany(most)


def without(word, levels):
    """What is left of a word when levels are taken out."""
    return regapped(word, [0 if level in levels else gap for level, gap in enumerate(gaps_of(word), start=1)])


def lots_of_levels(word):
    """All lots of levels of a word, those with fewer levels first, otherwise the least one first."""
    many = len(gaps_of(word))
    return [lot for size in range(many + 1) for lot in combinations(range(1, many + 1), size)]


def lots_to_core(word, core):
    """The lots of levels that, taken out of a word, leave a word with a core, in the order of all lots."""
    return [lot for lot in lots_of_levels(word) if core_of(without(word, lot)) == core]


def taken_out(word, levels):
    """What is left of the word when levels are taken out."""
    check_word(word)
    check_levels(levels, len(gaps_of(word)))
    return without(word, levels)


def falls(rule, word):
    """The levels whose gap is 0 when the word is said by the rule."""
    check_rule(rule)
    check_word(word)
    places = [sum_of_first(rule, mark) for mark in marks_of(word)]
    return tuple([level for level in range(1, len(places)) if places[level - 1] == places[level]])


def cores_below(word):
    """The unlike cores that are left when levels are taken out of a core, shorter ones first."""
    check_core(word)
    check_few_levels(word, MOST_LEVELS)
    found = sorted(set([core_of(without(word, lot)) for lot in lots_of_levels(word)]))
    return sorted(found, key=len)


def lots_between(one, other):
    """The lots of levels that, taken out of the core one, leave a word with the core other."""
    check_core(one)
    check_core(other)
    check_few_levels(one, MOST_LEVELS)
    return lots_to_core(one, other)


def ways_below(one, other):
    """How many lots of levels, taken out of the core one, leave a word with the core other."""
    return len(lots_between(one, other))


def least_levels(one, other):
    """The least lot of the fewest levels that leaves, of the core one, a word with the core other, None if none do."""
    lots = lots_between(one, other)
    if not lots:
        return None
    return lots[0]


def groups_left(core, lot):
    """The levels that are left when a lot is taken out of a core, in groups between neighbor marks of what is left."""
    left = [level for level in range(1, len(gaps_of(core)) + 1) if level not in lot]
    # In a core all gaps are 1, so that a mark of what is left is the number of levels up to it.
    marks = marks_of(without(core, lot))
    return [left[low:high] for low, high in zip(marks, marks[1:])]


def loose_groups(one, other):
    """For each way in which levels of one may fall so that the core of other is left: the groups that are left."""
    check_word(one)
    check_word(other)
    check_few_levels(one, MOST_LEVELS)
    core = core_of(one)
    return [groups_left(core, lot) for lot in lots_to_core(core, core_of(other))]


def loose_row(gaps, groups, goals):
    """A loose row that lets each group of levels grow to its goal and all other levels fall, None if there is none."""
    totals = [0] * len(gaps)
    for group, goal in zip(groups, goals):
        if len(group) > goal:
            return None
        for level in group:
            totals[level - 1] = 1
        totals[group[-1] - 1] = goal - len(group) + 1
    row = []
    for gap, total in zip(gaps, totals):
        row.extend([0] * (gap - 1))
        row.append(total)
    return tuple(row)


def any_rule(one, other):
    """A loose row from one to other, None if there is none."""
    for groups in loose_groups(one, other):
        row = loose_row(gaps_of(one), groups, gaps_of(other))
        if row is not None:
            return row
    return None


def count_group(sizes, goal):
    """How many tuples from 0 on have a sum, if they consist of parts of told sizes none of which is 0 throughout."""
    # Parts that may be 0 throughout are counted easily; some of them are, by turns, taken away and put back.
    ways = {0: 1}
    for size in sizes:
        more = {many: -ways[many] for many in ways}
        for many in ways:
            more[many + size] = more.get(many + size, 0) + ways[many]
        ways = more
    return sum([ways[many] * comb(goal + many - 1, goal) for many in ways if many > 0])


def count_any(one, other):
    """How many loose rows there are from one to other."""
    lots = loose_groups(one, other)
    gaps = gaps_of(one)
    goals = gaps_of(other)
    many = 0
    for groups in lots:
        sizes = [[gaps[level - 1] for level in group] for group in groups]
        many += product_of([count_group(parts, goal) for parts, goal in zip(sizes, goals)])
    return many


def least_places(rule, word):
    """For each mark of the word the least count that the rule puts to it, None if there is none."""
    return {mark: least_put_to(rule, mark) for mark in marks_of(word)}


def is_said(rule, word):
    """Whether the rule says some word to the word."""
    check_rule(rule)
    check_word(word)
    return None not in list(least_places(rule, word).values())


def undo(rule, word):
    """The word with runs of the same letters that the rule says to the word, by least counts, None if there is none."""
    check_rule(rule)
    check_word(word)
    places = least_places(rule, word)
    if None in list(places.values()):
        return None
    check_length(sum([places[word.count(letter)] for letter in LETTERS]))
    return moved(word, places)


# A point tells how often each letter stands in a word that a rule says to a beginning of the word that is to come out.


def place_of(rule, point):
    """How many letters the words with a point have when a rule has said them."""
    return sum([sum_of_first(rule, count) for count in point])


def points_behind(rule, word, point):
    """The letters that can come behind a point, each with the point behind it."""
    place = place_of(rule, point)
    found = []
    for index, letter in enumerate(LETTERS):
        size = number_of(rule, point[index] + 1)
        # A number of a rule may be great: no letters are written that the word has no room for.
        if place + size <= len(word) and word[place:place + size] == letter * size:
            found.append((letter, point[:index] + (point[index] + 1,) + point[index + 1:]))
    return found


def ways_behind(rule, word, size, point, known):
    """In how many ways a point is gone on from to words of so many letters; known keeps what was found."""
    if sum(point) == size:
        known[point] = 1 if place_of(rule, point) == len(word) else 0
    if point not in known:
        points = [there for letter, there in points_behind(rule, word, point)]
        known[point] = sum([ways_behind(rule, word, size, there, known) for there in points])
    return known[point]


def known_ways(rule, word, size):
    """For each point on the way to words of so many letters: in how many ways it is gone on from."""
    check_rule(rule)
    check_word(word)
    check_number(size, 0, MOST_LETTERS_UNDONE)
    known = {}
    ways_behind(rule, word, size, START, known)
    return known


def count_undo(rule, word, size):
    """How many words of so many letters the rule says to the word."""
    return known_ways(rule, word, size)[START]


def undoings(rule, word, size):
    """The words of so many letters that the rule says to the word, ascending."""
    known = known_ways(rule, word, size)
    if known[START] > MOST_UNDOINGS:
        raise TooLong(MOST_UNDOINGS)
    found = [("", START)]
    for _ in range(size):
        found = [
            (told + letter, there)
            for told, here in found
            for letter, there in points_behind(rule, word, here)
            if known[there] > 0
        ]
    return [told for told, point in found if known[point] > 0]
