"""Plain searches and countings that the answers of the package are held against."""

from itertools import product

LETTERS = "abcd"


def words_to(size, letters="ab"):
    """All words of at most so many letters."""
    return ["".join(row) for many in range(size + 1) for row in product(letters, repeat=many)]


def say(rule, word):
    """The word said by a rule, letter by letter."""
    told = ""
    for place, letter in enumerate(word):
        number = word[:place + 1].count(letter)
        told += letter * rule[min(number, len(rule)) - 1]
    return told


def marks(word):
    """The marks, from each end of a run."""
    found = {0}
    for place, letter in enumerate(word):
        if word[place + 1:place + 2] != letter:
            found.add(word[:place + 1].count(letter))
    return sorted(found)


def gaps(word):
    """The gaps, from the marks."""
    told = marks(word)
    return tuple(high - low for low, high in zip(told, told[1:]))


def say_by_row(row, word):
    """The word said by a row that has at least as many numbers as the last mark."""
    return say(row or (1,), word)


def core(word):
    """The word whose counts behind its runs are the indexes of those of the word."""
    told = marks(word)
    found = ""
    for end in range(1, len(word) + 1):
        letter = word[end - 1]
        if word[end:end + 1] != letter:
            index = told.index(word[:end].count(letter))
            found += letter * (index - found.count(letter))
    return found


def rows_between(words):
    """For each pair of words of which a row says one to the other: all these rows, ascending."""
    most = max(map(len, words))
    known = set(words)
    found = {}
    for one in words:
        for row in product(range(1, most + 1), repeat=max(marks(one))):
            other = say_by_row(row, one)
            if other in known:
                found.setdefault((one, other), []).append(row)
    return found


def say_again(rule, word, many):
    """The word said so many times, each time letter by letter."""
    for _ in range(many):
        word = say(rule, word)
    return word


def put(rule, count):
    """Where a rule puts a count, number by number."""
    return sum(rule[min(number, len(rule)) - 1] for number in range(1, count + 1))


def cores_to(size, letters="ab"):
    """All cores of at most so many letters."""
    return [word for word in words_to(size, letters) if core(word) == word]


def rows_of_gaps(many, most):
    """All rows of so many gaps up to the most one."""
    return list(product(range(1, most + 1), repeat=many))


def with_gaps(told, row):
    """The word that has a told core and a row of gaps, run by run."""
    found = ""
    stood = {letter: 0 for letter in LETTERS}
    for end in range(1, len(told) + 1):
        letter = told[end - 1]
        if told[end:end + 1] != letter:
            goal = sum(row[:told[:end].count(letter)])
            found += letter * (goal - stood[letter])
            stood[letter] = goal
    return found


def tall_words(size, most, letters="ab"):
    """Triples of core, gaps and written word for all cores of at most so many letters and gaps up to the most one."""
    found = []
    for told in cores_to(size, letters):
        for row in rows_of_gaps(max(marks(told)), most):
            found.append((told, row, with_gaps(told, row)))
    return found


def left_without(word, levels):
    """The letters of a word that lie in none of the levels, letter by letter."""
    told = ""
    for place, letter in enumerate(word):
        number = word[:place + 1].count(letter)
        if sum(1 for mark in marks(word) if mark < number) not in levels:
            told += letter
    return told
