import unittest

import plain
from saidcounts.errors import InvalidText, NotText, SayError
from saidcounts.texts import read_tall, write_tall
from wrong import CORES, TEXTS, TWO_TALL_GAPS, check_errors, failure

GREAT = 10 ** 60
LONG = "ab" * 1000

# For each text the place at which it is wrong.
INVALID = [
    ("", 0), ("a", 1), ("aba", 3), ("aa", 2), ("?", 0), ("abae:1,2", 3), (" aba:1,2", 0), ("aba :1,2", 3), ("e:", 0),
    ("aba;1,2", 3), ("1:1", 0), ("aba1:2,3", 3), ("A:1", 0), ("a\n:1", 1), ("aabba?", 5), ("aa?", 2), ("aba,1:2", 3),
    ("aa:1", 0), ("aabba:2,1", 0), ("aa:", 0), ("aa:x", 0), ("aa:0", 0),
    ("aba:", 4), ("aba:1", 5), ("aba:1,", 6), ("aba:,1", 4), ("aba:1,,1", 6), ("aba:1 ,1", 5), ("aba: 1,1", 4),
    ("aba:1, 1", 6), ("aba:1;1", 5), ("aba:1:1", 5), ("aba:1.5,1", 5), ("aba::1,1", 4), ("aba:x,1", 4), ("aba:1x,1", 5),
    ("aba:1,x", 6), ("aba:1,1x", 7), ("aba:1,1,", 7), ("aba:1,1,1", 7), ("aba:1,1 ", 7), ("aba:1,1\n", 7),
    ("aba:12,345,", 10), ("aba:12,345:", 10), ("aba:12345", 9), ("aba:+1,1", 4), ("aba:-1,1", 4), ("aba:1,-1", 6),
    ("aba:0,1", 4), ("aba:1,0", 6), ("aba:01,1", 4), ("aba:1,01", 6), ("aba:00,x", 4), ("aba:10,0x", 7), ("aba:0x", 4),
    ("aba:1_0,1", 5), ("aba:\u0661,1", 4), ("aba:1\u0661,1", 5), ("aba:1,\u00b2", 6), ("aba:1,1\u00b2", 7),
    (":1", 1), (":,", 1), (":0", 1), (":x", 1), ("::", 1), (": ", 1), (":aba", 1),
    ("a:", 2), ("a:1,", 3), ("a:1,1", 3), ("a:0", 2), ("a:1a", 3), ("a:a", 2),
]
GAPS_OF_TEXTS = [1, 2, 9, 10, 11, 99, 100, 12345, GREAT - 1, GREAT]


class Texts(unittest.TestCase):
    def test_examples(self):
        self.assertEqual(write_tall("aba", (12, 3)), "aba:12,3")
        self.assertEqual(read_tall("aba:12,3"), ("aba", (12, 3)))
        self.assertEqual(read_tall(":"), ("", ()))
        self.assertEqual(failure(read_tall, ("aba:1",)), (InvalidText, {"place": 5}))

    def test_all_small_tall_words(self):
        for core in plain.cores_to(4) + plain.cores_to(3, "abcd"):
            for row in plain.rows_of_gaps(max(plain.marks(core)), 3):
                text = core + ":" + ",".join(map(str, row))
                self.assertEqual(write_tall(core, row), text)
                self.assertEqual(read_tall(text), (core, row))

    def test_great_gaps(self):
        for one in GAPS_OF_TEXTS:
            self.assertEqual(read_tall(f"a:{one}"), ("a", (one,)))
            for other in GAPS_OF_TEXTS:
                self.assertEqual(write_tall("aba", (one, other)), f"aba:{one},{other}")
                self.assertEqual(read_tall(f"aba:{one},{other}"), ("aba", (one, other)))
        for gap in (GREAT + 1, GREAT * 10, "9" * 61, "1" + "0" * 3000, "1" * 3996):
            self.assertEqual(failure(read_tall, (f"a:{gap}",)), (InvalidText, {"place": 2}))
            self.assertEqual(failure(read_tall, (f"a:{gap}x",)), (InvalidText, {"place": 2}))
        self.assertEqual(failure(read_tall, (f"aba:{GREAT},{GREAT + 1}",)), (InvalidText, {"place": 66}))
        self.assertEqual(failure(read_tall, (f"aba:{GREAT + 1},{GREAT + 1}",)), (InvalidText, {"place": 4}))

    def test_invalid_texts(self):
        self.assertEqual(InvalidText.__bases__, (SayError,))
        for text, place in INVALID:
            with self.subTest(text=text):
                self.assertEqual(failure(read_tall, (text,)), (InvalidText, {"place": place}))

    def test_the_colon_is_missed_ahead_of_the_core(self):
        self.assertEqual(failure(read_tall, ("aa" * 2000,)), (InvalidText, {"place": 4000}))
        self.assertEqual(failure(read_tall, ("aa" * 1999 + "?",)), (InvalidText, {"place": 3998}))
        self.assertEqual(failure(read_tall, ("aa" * 1999 + ":",)), (InvalidText, {"place": 0}))

    def test_cores_of_two_thousand_letters_and_more(self):
        core = "abcd" * 500
        text = core + ":" + ",".join(["1"] * 500)
        self.assertEqual(read_tall(text), (core, (1,) * 500))
        self.assertEqual(write_tall(core, (1,) * 500), text)
        core = "abcd" * 500 + "a"
        self.assertEqual(failure(read_tall, (core + ":" + ",".join(["1"] * 501),)), (InvalidText, {"place": 0}))
        self.assertEqual(failure(read_tall, (core,)), (InvalidText, {"place": 2001}))

    def test_four_thousand_signs_and_one_more(self):
        text = LONG + ":" + ",".join(["1"] * 1000)
        self.assertEqual(len(text), 4000)
        self.assertEqual(read_tall(text), (LONG, (1,) * 1000))
        self.assertEqual(failure(read_tall, (text[:-1] + "0",)), (InvalidText, {"place": 3999}))
        self.assertEqual(failure(read_tall, (text[:-1],)), (InvalidText, {"place": 3999}))
        self.assertEqual(failure(read_tall, (text[:-2],)), (InvalidText, {"place": 3998}))
        not_text = (NotText, {})
        self.assertEqual(failure(read_tall, (text + "1",)), not_text)
        self.assertEqual(failure(read_tall, ("e" + text,)), not_text)
        # What is written may be longer than what is read.
        self.assertEqual(write_tall(LONG, (10,) * 1000), LONG + ":" + ",".join(["10"] * 1000))
        self.assertEqual(len(write_tall(LONG, (GREAT,) * 1000)), 2000 + 1 + 61 * 1000 + 999)

    def test_errors(self):
        self.assertEqual(NotText.__bases__, (SayError,))
        check_errors(self, write_tall, ["aba", (12, 3)], [CORES, TWO_TALL_GAPS])
        check_errors(self, read_tall, ["aba:12,3"], [TEXTS])


if __name__ == "__main__":
    unittest.main()
