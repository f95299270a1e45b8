"""Plain searches and countings that the answers of the package are held against."""

from itertools import product

LETTERS = "abcd"


def words_to(size, letters="ab"):
    """All words of at most so many letters."""
    return ["".join(row) for many in range(size + 1) for row in product(letters, repeat=many)]


def say(rule, word):
    """The word said by a rule, letter by letter."""
    told = ""
    for place, letter in enumerate(word):
        number = word[:place + 1].count(letter)
        told += letter * rule[min(number, len(rule)) - 1]
    return told


def marks(word):
    """The marks, from each end of a run."""
    found = {0}
    for place, letter in enumerate(word):
        if word[place + 1:place + 2] != letter:
            found.add(word[:place + 1].count(letter))
    return sorted(found)


def gaps(word):
    """The gaps, from the marks."""
    told = marks(word)
    return tuple(high - low for low, high in zip(told, told[1:]))


def rows(one, other):
    """All rows from one word to another one, by trying every tuple that is not plainly too great."""
    many = max(marks(one))
    most = max(marks(other))
    return [row for row in product(range(1, most + 1), repeat=many) if say_by_row(row, one) == other]


def say_by_row(row, word):
    """The word said by a row that has at least as many numbers as the last mark."""
    return say(row or (1,), word)
