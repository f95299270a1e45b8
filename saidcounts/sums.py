"""Sayings one after the other, and where they put counts."""

from saidcounts.checks import GREATEST_COUNT, LETTERS, MOST_LETTERS, check_greatness, check_length, check_number
from saidcounts.checks import check_rule, check_word
from saidcounts.ends import said_ends
from saidcounts.errors import BadNumber, TooGreat
from saidcounts.marks import ends_of, marks_of, runs_to, written
from saidcounts.words import sum_of_first

MOST_TIMES_WRITTEN = 12
MOST_TIMES = 10 ** 18
MOST_HALVED = 6
GREATEST_HALVED = 40


def shortest(rule):
    """The shortest tuple that is, as a rule, the same."""
    many = len(rule)
    while many > 1 and rule[many - 1] == rule[many - 2]:
        many -= 1
    return tuple(rule[:many])


def both(one, other):
    """The shortest tuple of the rule that says as one and then other."""
    # Behind so many numbers one has come to its last number, and behind that, unless it is 0, other has, too.
    many = len(one) + len(other)
    sums = [sum_of_first(other, sum_of_first(one, count)) for count in range(many + 1)]
    return shortest([high - low for low, high in zip(sums, sums[1:])])


def plain(rule):
    """The shortest tuple that is, as a rule, the same."""
    check_rule(rule)
    return shortest(rule)


def same_rule(one, other):
    """Whether two rules have the same numbers."""
    check_rule(one)
    check_rule(other)
    return shortest(one) == shortest(other)


def then(one, other):
    """The shortest tuple of the rule that says as one and then other."""
    check_rule(one)
    check_rule(other)
    return both(one, other)


def again(rule, times):
    """The shortest tuple of the rule that says as the rule does when it says so many times."""
    check_rule(rule)
    check_number(times, 0, MOST_TIMES_WRITTEN)
    found = (1,)
    for _ in range(times):
        found = both(found, rule)
        check_greatness(max(found))
    return found


def like_steps(rule, count, times):
    """How many of so many sayings, from the first one on, surely put a count further, or back, by the same number."""
    drift = sum(rule) - len(rule)
    if rule[-1] != 1 or count < len(rule):
        return 1
    if drift >= 0:
        return times
    return min(times, (count - len(rule)) // -drift + 1)


def count_after(rule, count, times):
    """Where so many sayings put a count; TooGreat if it comes above 10 ** 60 on the way."""
    while times > 0:
        rise = sum_of_first(rule, count) - count
        if rise == 0:
            break
        many = like_steps(rule, count, times)
        count += many * rise
        times -= many
        check_greatness(count)
    return count


def way_of(rule, mark):
    """The places of a count from saying to saying until it stays where it is, None if it grows for ever."""
    found = [mark]
    place = sum_of_first(rule, mark)
    while place != found[-1]:
        # Behind the written numbers a count that once grows never grows less.
        if place > found[-1] >= len(rule) and rule[-1] > 0:
            return None
        found.append(place)
        place = sum_of_first(rule, place)
    return tuple(found)


def mark_after(rule, mark, times):
    """Where so many sayings put a count."""
    check_rule(rule)
    check_number(mark, 0, GREATEST_COUNT)
    check_number(times, 0, MOST_TIMES)
    return count_after(rule, mark, times)


def fixed_marks(rule, most):
    """The counts up to a number that the rule puts where they are."""
    check_rule(rule)
    check_number(most, 0, MOST_LETTERS)
    return tuple([count for count in range(most + 1) if sum_of_first(rule, count) == count])


def way(rule, mark):
    """The places of a count up to the first that is put where it is, None if it grows for ever."""
    check_rule(rule)
    check_number(mark, 0, MOST_LETTERS)
    return way_of(rule, mark)


def are_fixed(rule, ends):
    """Whether the rule puts all ends of runs where they are."""
    return all([sum_of_first(rule, end) == end for letter, end in ends])


def settled(rule, word):
    """The number of sayings after which the word stays and the ends of its runs then, None if it never does."""
    # A count that grows for ever keeps its letter there, and the greatest one grows if any does.
    if way_of(rule, marks_of(word)[-1]) is None:
        return None
    ends = ends_of(word)
    many = 0
    while not are_fixed(rule, ends):
        ends = said_ends(rule, ends)
        many += 1
    return (many, ends)


def stays(rule, word):
    """Whether the word said by the rule is the word."""
    check_rule(rule)
    check_word(word)
    return are_fixed(rule, ends_of(word))


def settles(rule, word):
    """The least number of sayings after which the word stays, None if it never does."""
    check_rule(rule)
    check_word(word)
    found = settled(rule, word)
    if found is None:
        return None
    return found[0]


def final(rule, word):
    """The word at which the word stays, None if it never does."""
    check_rule(rule)
    check_word(word)
    found = settled(rule, word)
    if found is None:
        return None
    pieces = runs_to(found[1])
    check_length(sum([size for letter, size in pieces]))
    return written(pieces)


def say_often(rule, word, times):
    """The word said so many times by a rule without zeros."""
    check_rule(rule)
    check_word(word)
    check_number(times, 0, MOST_TIMES)
    if 0 in rule:
        raise BadNumber()
    # The greatest count stands first in line: where it does not come above 10 ** 60, no other one does.
    places = {mark: count_after(rule, mark, times) for mark in reversed(marks_of(word))}
    pieces = runs_to([(letter, places[end]) for letter, end in ends_of(word)])
    check_length(sum([size for letter, size in pieces]))
    return written(pieces)


def length_after(rule, word, times):
    """How many letters the word has when it is said so many times."""
    check_rule(rule)
    check_word(word)
    check_number(times, 0, MOST_TIMES)
    return sum([count_after(rule, word.count(letter), times) for letter in LETTERS])


def fits(places, count, place):
    """Whether a rule that puts counts where a table tells can put one more count to a place."""
    for other in places:
        if (other <= count and places[other] > place) or (other >= count and places[other] < place):
            return False
    return True


def with_half(places, count, place, goal):
    """The table of places with a count put to a place and that to a goal, None if no rule does this."""
    if not fits(places, count, place):
        return None
    more = dict(places)
    more[count] = place
    if not fits(more, place, goal):
        return None
    more[place] = goal
    return more


def halved(goals, count, places):
    """The least table of places, behind told ones for lesser counts, that leads to all goals by two steps, or None."""
    if count == len(goals):
        return places
    for place in range(max(goals[-1], count) + 1):
        more = with_half(places, count, place, goals[count])
        if more is not None:
            found = halved(goals, count + 1, more)
            if found is not None:
                return found
    return None


def half_rule(rule, many):
    """The least sums of a rule that, said twice, puts counts where the told rule does, None if there is none."""
    check_rule(rule)
    check_number(many, 0, MOST_HALVED)
    goals = [sum_of_first(rule, count) for count in range(many + 1)]
    if goals[-1] > GREATEST_HALVED:
        raise TooGreat(GREATEST_HALVED)
    places = halved(goals, 0, {})
    if places is None:
        return None
    return tuple([places[count] for count in range(many + 1)])
