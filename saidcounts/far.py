"""Tall words: places, letters and pieces of words that are told by their cores and gaps and are not written."""

from saidcounts.checks import LETTERS, MOST_LETTERS, check_greatness, check_letter, check_number, check_number_from
from saidcounts.checks import check_place, check_rule_without_zeros
from saidcounts.ends import check_tall, tall_runs
from saidcounts.errors import TooLong
from saidcounts.marks import length_with_gaps, sums_of, written
from saidcounts.sums import MOST_TIMES, count_after


def counts_before(runs, place):
    """How often each letter stands at the places below one, a table."""
    stood = {letter: 0 for letter in LETTERS}
    for letter, size in runs:
        taken = min(size, place)
        stood[letter] += taken
        place -= taken
    return stood


def piece_of(runs, start, end):
    """The runs of the part of a word from one place up to, but without, another one."""
    pieces = []
    place = 0
    for letter, size in runs:
        low = max(place, start)
        place += size
        if low < min(place, end):
            pieces.append((letter, min(place, end) - low))
    return pieces


def tall_length(word, told):
    """How many letters a tall word has."""
    check_tall(word, told)
    return length_with_gaps(word, told)


def tall_letter(word, told, place):
    """The letter at a place of a tall word."""
    check_tall(word, told)
    check_place(place, length_with_gaps(word, told) - 1)
    return written(piece_of(tall_runs(word, told), place, place + 1))


def tall_count(word, told, letter, place):
    """How often a letter stands at lesser places of a tall word."""
    check_tall(word, told)
    check_letter(letter)
    check_place(place, length_with_gaps(word, told))
    return counts_before(tall_runs(word, told), place)[letter]


def tall_point(word, told, place):
    """How often a, b, c, d stand at lesser places of a tall word."""
    check_tall(word, told)
    check_place(place, length_with_gaps(word, told))
    stood = counts_before(tall_runs(word, told), place)
    return tuple([stood[letter] for letter in LETTERS])


def tall_place(word, told, letter, number):
    """The place of the letter that stands so many times at lesser places, None if there is none."""
    check_tall(word, told)
    check_letter(letter)
    check_number_from(number, 0)
    place = 0
    for found, size in tall_runs(word, told):
        if found == letter:
            if number < size:
                return place + number
            number -= size
        place += size
    return None


def tall_piece(word, told, start, size):
    """The word of so many letters of a tall word from a place on."""
    check_tall(word, told)
    length = length_with_gaps(word, told)
    check_place(start, length)
    check_number(size, 0, length - start)
    if size > MOST_LETTERS:
        raise TooLong(MOST_LETTERS)
    return written(piece_of(tall_runs(word, told), start, start + size))


def tall_unlike(word, told, other, more):
    """The first place at which two tall words have unlike letters, None if there is none."""
    check_tall(word, told)
    check_tall(other, more)
    place = 0
    for (letter, size), (another, many) in zip(tall_runs(word, told), tall_runs(other, more)):
        if letter != another:
            return place
        place += min(size, many)
        if size != many:
            break
    # Behind the shorter run another letter follows, unless its word ends there.
    if place < min(length_with_gaps(word, told), length_with_gaps(other, more)):
        return place
    return None


def tall_said(rule, word, told, times):
    """The gaps of a tall word said so many times by a rule without zeros."""
    check_rule_without_zeros(rule)
    check_tall(word, told)
    check_number(times, 0, MOST_TIMES)
    sums = sums_of(told)
    check_greatness(count_after(rule, sums[-1], times))
    places = [count_after(rule, mark, times) for mark in sums]
    return tuple([high - low for low, high in zip(places, places[1:])])


def longest_run(word, told):
    """The letter, the size and the first place of the first one of the longest runs, None for the empty word."""
    check_tall(word, told)
    longest = None
    place = 0
    for letter, size in tall_runs(word, told):
        if longest is None or size > longest[1]:
            longest = (letter, size, place)
        place += size
    return longest


def lead(word, told, one, other):
    """By how much, at most, one letter has stood more often than another one at the places below a place."""
    check_tall(word, told)
    check_letter(one)
    check_letter(other)
    stood = {letter: 0 for letter in LETTERS}
    greatest = 0
    for letter, size in tall_runs(word, told):
        stood[letter] += size
        greatest = max(greatest, stood[one] - stood[other])
    return greatest
