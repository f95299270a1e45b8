"""Desks, each of which keeps a tall word and the steps that made it."""

from saidcounts.checks import GREATEST_COUNT, MOST_LETTERS, check_greatness, check_number
from saidcounts.ends import check_tall
from saidcounts.errors import NothingToUndo
from saidcounts.far import tall_letter
from saidcounts.marks import length_with_gaps, regapped
from saidcounts.talls import tall_any


class Desk:
    """A tall word that is said, grows and becomes bare step by step; steps can be taken back."""

    def __init__(self, word, told):
        check_tall(word, told)
        self._core = word
        self._gaps = told
        self._past = []

    def _step(self, word, told):
        """Keep another tall word, and the one that was there for undo."""
        self._past.append((self._core, self._gaps))
        self._core = word
        self._gaps = told

    def say(self, rule):
        """Say the word by a rule that may have zeros."""
        word, told = tall_any(rule, self._core, self._gaps)
        self._step(word, told)

    def grow(self, level, more):
        """Let the gap of a level grow by an integer, which may be below 0."""
        check_number(level, 1, len(self._gaps))
        gap = self._gaps[level - 1]
        check_number(more, 1 - gap, GREATEST_COUNT)
        check_greatness(gap + more)
        self._step(self._core, self._gaps[:level - 1] + (gap + more,) + self._gaps[level:])

    def bare(self):
        """Put all gaps to 1."""
        self._step(self._core, (1,) * len(self._gaps))

    def undo(self):
        """Take the last step back that was not taken back."""
        if not self._past:
            raise NothingToUndo()
        word, told = self._past.pop()
        self._core = word
        self._gaps = told

    def size(self):
        """How many letters the word has."""
        return length_with_gaps(self._core, self._gaps)

    def letter(self, place):
        """The letter at a place of the word."""
        return tall_letter(self._core, self._gaps, place)

    def written(self):
        """The word, None if it has more letters than a word."""
        if self.size() > MOST_LETTERS:
            return None
        return regapped(self._core, self._gaps)

    @property
    def core(self):
        """The core of the word."""
        return self._core

    @property
    def gaps(self):
        """The gaps of the word."""
        return self._gaps

    @property
    def undoable(self):
        """How many steps can be taken back."""
        return len(self._past)
