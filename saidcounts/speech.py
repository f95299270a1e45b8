"""Words that speak by the lengths of their own runs."""

from saidcounts.checks import check_length, check_number, check_word
from saidcounts.marks import gaps_of, runs_of
from saidcounts.words import length_of_said, said_word

MOST_TIMES_SPOKEN = 20


def numbers_of(word):
    """The lengths of the runs of a word."""
    return tuple([size for letter, size in runs_of(word)])


def spoken_length(word):
    """How many letters a word has when it has spoken."""
    if not word:
        return 0
    return length_of_said(numbers_of(word), word)


def spoken(word):
    """The word that a word speaks; TooLong if it has too many letters."""
    check_length(spoken_length(word))
    return said_word(numbers_of(word), word)


def own_numbers(word):
    """The lengths of the runs of the word, in order."""
    check_word(word)
    return numbers_of(word)


def speak(word):
    """The word said by the lengths of its own runs."""
    check_word(word)
    return spoken(word)


def speak_often(word, times):
    """The word when it has spoken so many times, each time by the runs that it has then."""
    check_word(word)
    check_number(times, 0, MOST_TIMES_SPOKEN)
    for _ in range(times):
        word = spoken(word)
    return word


def speaks_itself(word):
    """Whether speaking leaves the word as it is."""
    check_word(word)
    return spoken(word) == word


def first_long(word):
    """The number of the first run of more than one letter, None if there is none."""
    check_word(word)
    for number, size in enumerate(numbers_of(word), start=1):
        if size > 1:
            return number
    return None


def speech_gaps(word):
    """The gaps of the word that the word speaks."""
    check_word(word)
    return gaps_of(spoken(word))


def speech_grows(word):
    """By how many letters the word grows when it speaks."""
    check_word(word)
    length = spoken_length(word)
    check_length(length)
    return length - len(word)
