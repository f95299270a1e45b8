"""Rules that, behind or ahead of a rule, put small counts where a whole rule puts them."""

from math import comb

from saidcounts.checks import check_number, check_rule
from saidcounts.order import product_of
from saidcounts.words import number_of, sum_of_first

MOST_COUNTS = 12


def check_rules_and_many(one, other, many):
    """Raise BadRule or BadNumber for the first of two rules and a number of counts that is not allowed."""
    check_rule(one)
    check_rule(other)
    check_number(many, 0, MOST_COUNTS)


def parts_behind(one, whole, many):
    """What is asked of a rule behind one: pairs of how many numbers and their sum; None if it cannot be met."""
    parts = []
    for number in range(1, many + 1):
        size = number_of(one, number)
        total = number_of(whole, number)
        if size == 0 and total > 0:
            return None
        if size > 0:
            parts.append((size, total))
    return parts


def primes_to(most):
    """The primes up to a number, ascending."""
    is_left = [True] * (most + 1)
    primes = []
    for number in range(2, most + 1):
        if is_left[number]:
            primes.append(number)
            for multiple in range(number * number, most + 1, number):
                is_left[multiple] = False
    return primes


def exponent_in_factorial(prime, number):
    """How often a prime divides the product of 1, 2, .. up to a number."""
    exponent = 0
    while number > 0:
        number //= prime
        exponent += number
    return exponent


def factors_of_choices(many, chosen, primes):
    """The prime factors of how many ways there are to choose so many of many."""
    factors = []
    for prime in primes:
        if prime > many:
            break
        exponent = exponent_in_factorial(prime, many)
        exponent -= exponent_in_factorial(prime, chosen) + exponent_in_factorial(prime, many - chosen)
        factors.extend([prime] * exponent)
    return factors


def behind(one, whole, many):
    """The row that, behind the rule one, puts counts where the rule whole puts them, None if there is none."""
    check_rules_and_many(one, whole, many)
    parts = parts_behind(one, whole, many)
    if parts is None:
        return None
    row = []
    for size, total in parts:
        row.extend([0] * (size - 1))
        row.append(total)
    return tuple(row)


def can_behind(one, whole, many):
    """Whether some row, behind the rule one, puts counts where the rule whole puts them."""
    check_rules_and_many(one, whole, many)
    return parts_behind(one, whole, many) is not None


def count_behind(one, whole, many):
    """How many rows, behind the rule one, put counts where the rule whole puts them."""
    check_rules_and_many(one, whole, many)
    parts = parts_behind(one, whole, many)
    if parts is None:
        return 0
    # Numbers of a rule go to 10 ** 6, and there the factors are told much sooner than by comb.
    primes = primes_to(max([size + total - 1 for size, total in parts], default=0))
    factors = []
    for size, total in parts:
        factors.extend(factors_of_choices(size + total - 1, total, primes))
    return product_of(factors)


def least_put_to(rule, place):
    """The least count that a rule puts to a place, None if there is none."""
    for count in range(len(rule) + 1):
        if sum_of_first(rule, count) == place:
            return count
    beyond = place - sum_of_first(rule, len(rule))
    if beyond < 0 or rule[-1] == 0 or beyond % rule[-1] > 0:
        return None
    return len(rule) + beyond // rule[-1]


def many_put_with(rule, least):
    """How many counts from the least one on a rule puts to one place, None if endlessly many."""
    many = 1
    while number_of(rule, least + many) == 0:
        if least + many >= len(rule):
            return None
        many += 1
    return many


def ahead(last, whole, many):
    """The least tuple of places from which the rule last puts counts where whole does, None if there is none."""
    check_rules_and_many(last, whole, many)
    found = [least_put_to(last, sum_of_first(whole, count)) for count in range(many + 1)]
    if None in found:
        return None
    return tuple(found)


def count_ahead_of(last, whole, many):
    """How many tuples of places there are for ahead, None if there are endlessly many."""
    check_rules_and_many(last, whole, many)
    # The count 0 is put to 0 by every rule: only the counts from 1 on are free.
    places = [sum_of_first(whole, count) for count in range(1, many + 1)]
    least = {place: least_put_to(last, place) for place in places}
    if None in list(least.values()):
        return 0
    ways = 1
    for place in list(least):
        choices = many_put_with(last, least[place])
        if choices is None:
            return None
        alike = places.count(place)
        ways *= comb(choices + alike - 1, alike)
    return ways
