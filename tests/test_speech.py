import unittest
from itertools import groupby

import plain
from saidcounts.errors import BadNumber, TooLong
from saidcounts.marks import gaps
from saidcounts.speech import (
    first_long, own_numbers, speak, speak_often, speaks_itself, speech_gaps, speech_grows,
)
from wrong import WORDS, check_errors, failure, numbers

SMALL = plain.words_to(7) + plain.words_to(4, "abcd") + ["abcdabcc", "aabbccdd", "abcabcabbb"]
TOO_LONG = (TooLong, {"most": 20000})
# These words speak 20000 letters and one more.
JUST_SHORT = "a" * 100 + "b" * 100
ONE_MORE = "a" * 67 + "b" * 2 + "c" * 97 + "d" * 82


def sizes(word):
    return tuple(len(list(group)) for _, group in groupby(word))


def spoken(word):
    return plain.say(sizes(word) or (1,), word)


class Speech(unittest.TestCase):
    def test_examples(self):
        self.assertEqual(own_numbers("aab"), (2, 1))
        self.assertEqual(speak("aab"), "aaabb")
        self.assertEqual(speak_often("aa", 2), "a" * 16)
        self.assertIs(speaks_itself("abcc"), True)
        self.assertEqual(first_long("abcc"), 3)
        self.assertEqual(speech_gaps("aab"), (2, 1))
        self.assertEqual(speech_grows("aab"), 2)

    def test_small_words(self):
        for word in SMALL:
            told = spoken(word)
            self.assertEqual(own_numbers(word), sizes(word))
            self.assertEqual(speak(word), told)
            self.assertIs(speaks_itself(word), told == word)
            self.assertEqual(speech_gaps(word), plain.gaps(told))
            self.assertEqual(speech_grows(word), len(told) - len(word))
            longs = [number for number, size in enumerate(sizes(word), start=1) if size > 1]
            self.assertEqual(first_long(word), longs[0] if longs else None)

    def test_a_word_speaks_itself_if_its_first_runs_are_short(self):
        for word in SMALL:
            most = max(plain.marks(word))
            self.assertIs(speaks_itself(word), all(size == 1 for size in sizes(word)[:most]))

    def test_often(self):
        for word in SMALL:
            told = word
            for many in range(5):
                self.assertEqual(speak_often(word, many), told)
                told = spoken(told)
                if len(told) > 1000:
                    break

    def test_the_empty_word(self):
        self.assertEqual(own_numbers(""), ())
        self.assertEqual(speak(""), "")
        self.assertEqual(speak_often("", 20), "")
        self.assertIs(speaks_itself(""), True)
        self.assertIsNone(first_long(""))
        self.assertEqual(speech_gaps(""), ())
        self.assertEqual(speech_grows(""), 0)

    def test_twenty_thousand_letters(self):
        self.assertEqual(speak(JUST_SHORT), "a" * 10000 + "b" * 10000)
        self.assertEqual(speech_gaps(JUST_SHORT), (10000,))
        self.assertEqual(speech_grows(JUST_SHORT), 19800)
        self.assertIs(speaks_itself(JUST_SHORT), False)
        self.assertEqual(len(speak_often(JUST_SHORT, 1)), 20000)

    def test_one_letter_more(self):
        self.assertEqual(len(spoken(ONE_MORE)), 20001)
        for told in (ONE_MORE, "a" * 2000, "a" * 142, "a" * 1000 + "b" * 1000):
            for call in (speak, speaks_itself, speech_gaps, speech_grows):
                self.assertEqual(failure(call, (told,)), TOO_LONG)
            self.assertEqual(failure(speak_often, (told, 1)), TOO_LONG)
            self.assertEqual(speak_often(told, 0), told)
            self.assertEqual(own_numbers(told), sizes(told))
            self.assertEqual(first_long(told), 1)

    def test_too_long_on_the_way(self):
        self.assertEqual(len(speak_often("aaa", 3)), 3 ** 8)
        self.assertEqual(failure(speak_often, ("aaa", 4)), TOO_LONG)
        self.assertEqual(failure(speak_often, ("aa", 20)), TOO_LONG)
        self.assertEqual(speak_often("ab" * 1000, 20), "ab" * 1000)
        self.assertEqual(speak_often("abcc", 20), "abcc")

    def test_long_words(self):
        word = "ab" * 999 + "aa"
        self.assertIs(speaks_itself(word), True)
        self.assertEqual(first_long(word), 1999)
        self.assertEqual(speak("ab" * 1000), "ab" * 1000)
        self.assertEqual(gaps(speak("aab")), speech_gaps("aab"))

    def test_errors(self):
        for call in (own_numbers, speak, speaks_itself, first_long, speech_gaps, speech_grows):
            check_errors(self, call, ["ab"], [WORDS])
        check_errors(self, speak_often, ["ab", 3], [WORDS, numbers(0, 20)])
        self.assertEqual(failure(speak_often, ("a" * 2000, 21)), (BadNumber, {}))


if __name__ == "__main__":
    unittest.main()
