"""Promises 3 and 42: full codes, and what they cost."""

import itertools
import random
import time
import unittest

from tests.coders import comb, cost_told, full_lengths, least_told, nodes_told, random_words
from tests.helpers import NO_INTEGERS, raised
from wordvault.codes import Code, check_counts, cost, is_least, least_code, least_cost

GREAT = 10 ** 39


class CodesTest(unittest.TestCase):
    def test_canonical_words(self):
        self.assertEqual(Code([1, 2, 3, 3]).words, ("0", "10", "110", "111"))
        self.assertEqual(Code([3, 1, 3, 2]).words, ("110", "0", "111", "10"))
        self.assertEqual(Code([2, 2, 2, 2]).words, ("00", "01", "10", "11"))
        for lengths in full_lengths(5):
            code = Code(list(lengths))
            self.assertEqual(tuple(len(word) for word in code.words), lengths)
            order = sorted(range(5), key=lambda sign: (lengths[sign], sign))
            words = [code.words[sign] for sign in order]
            self.assertEqual(words, sorted(words))
            for ahead, word in zip(words, words[1:]):
                number = int(ahead, 2) + 1 << len(word) - len(ahead)
                self.assertEqual(int(word, 2), number)
            self.assertEqual(set(words[0]), {"0"})

    def test_form(self):
        lengths, words = [1, 2, 2], ["1", "01", "00"]
        code = Code(lengths, words)
        lengths.append(7)
        words.append(7)
        self.assertEqual((code.lengths, code.words, code.size, code.longest), ((1, 2, 2), ("1", "01", "00"), 3, 2))
        self.assertEqual(code, Code((1, 2, 2), ("1", "01", "00")))
        self.assertEqual(Code([1, 2, 2]), Code([1, 2, 2], ["0", "10", "11"]))
        self.assertNotEqual(code, Code([1, 2, 2]))
        self.assertFalse(code == code.words)

    def test_greatest(self):
        code = comb(2000)
        self.assertEqual((code.size, code.longest, code.words[1999]), (2000, 1999, "1" * 1999))
        self.assertEqual(Code(code.lengths, code.words), code)
        self.assertEqual(Code([1, 1]).words, ("0", "1"))
        self.assertEqual(Code([10] * 48 + [11] * 1952).size, 2000)

    def test_errors_in_order(self):
        for many in (0, 1, 2001):
            self.assertEqual(raised(Code, ["x"] * many, 7), ("TooMany", "signs", many, 2000))
            self.assertEqual(raised(check_counts, ["x"] * many), ("TooMany", "signs", many, 2000))
        for value in NO_INTEGERS + [0, -1, 2000, GREAT]:
            self.assertEqual(raised(Code, [1, value, "x"], ["x"] * 3), ("BadLength", 1))
        for lengths in [[1, 2], [1, 1, 1], [2, 2, 2], [1, 2, 3], [1, 1999], [2] * 5]:
            self.assertEqual(raised(Code, lengths, ["x"] * len(lengths)), ("NotFull",))
        for value in NO_INTEGERS + [1, "2", "12", "0", "000", "0 ", "ab", ["0", "1"]]:
            self.assertEqual(raised(Code, [2, 2, 1], ["1" * 2, value, 7]), ("BadBits", 1), value)
            self.assertEqual(raised(Code, [2, 2, 1], [value, value, 7]), ("BadBits", 0), value)

    def test_begins(self):
        rng = random.Random(51)
        seen = {}
        for _ in range(300):
            words = random_words(rng, rng.randint(2, 6))
            for _ in range(rng.randint(0, 3)):
                sign = rng.randrange(len(words))
                words[sign] = "".join(rng.choice("01") for _ in words[sign])
            pairs = [(one, other) for one, other in itertools.combinations(range(len(words)), 2)
                     if words[one].startswith(words[other]) or words[other].startswith(words[one])]
            error = raised(Code, [len(word) for word in words], words)
            self.assertEqual(error, ("Begins",) + min(pairs) if pairs else None)
            seen[pairs != []] = True
        self.assertEqual(len(seen), 2)
        self.assertEqual(raised(Code, [1, 2, 2], ["0", "10", "10"]), ("Begins", 1, 2))
        self.assertEqual(raised(Code, [2, 2, 1], ["10", "11", "1"]), ("Begins", 0, 2))

    def test_least_cost_held_against_all_codes(self):
        rng = random.Random(52)
        for number in range(300):
            counts = [rng.choice([0, 0, 1, 2, rng.randint(0, 20), rng.randint(0, GREAT)]) for _ in range(number % 5 + 2)]
            least = least_told(counts)
            self.assertEqual(least_cost(counts), least)
            code = least_code(counts)
            self.assertEqual(code, Code(code.lengths))
            self.assertEqual(cost(code, counts), least)
            self.assertEqual(least_code(tuple(counts)), code)
            for lengths in full_lengths(len(counts))[:40]:
                told = Code(lengths)
                self.assertEqual(cost(told, counts), cost_told(lengths, counts))
                self.assertIs(is_least(told, counts), cost_told(lengths, counts) == least)

    def test_counts(self):
        self.assertIsNone(check_counts([0, 0]))
        self.assertIsNone(check_counts((GREAT,) * 2000))
        self.assertEqual((least_cost([0] * 7), least_cost([0, GREAT]), least_cost([2, 1, 1, 1])), (0, GREAT, 10))
        for value in [value for value in NO_INTEGERS] + [-1, -GREAT]:
            self.assertEqual(raised(check_counts, [0, value, "x"]), ("BadTally", 1))
            for call in (least_cost, least_code):
                self.assertEqual(raised(call, [0, value, "x"]), ("BadTally", 1))
            for call in (cost, is_least):
                self.assertEqual(raised(call, Code([1, 1]), [0, value, "x"]), ("BadTally", 1))
        for call in (cost, is_least):
            self.assertEqual(raised(call, Code([1, 1]), [0, 1, 2]), ("OtherSize", 3, 2))
            self.assertEqual(raised(call, Code([1, 2, 2]), [0, 1]), ("OtherSize", 2, 3))
            self.assertEqual(raised(call, Code([1, 1]), [0]), ("TooMany", "signs", 1, 2000))
        for call in (least_cost, least_code):
            self.assertEqual(raised(call, [0] * 2001), ("TooMany", "signs", 2001, 2000))

    def test_deepest_codes(self):
        began = time.time()
        counts = [1, 1]
        while len(counts) < 2000:
            counts.append(counts[-1] + counts[-2])
        code = least_code(counts)
        self.assertEqual(code.longest, 1999)
        self.assertEqual(cost(code, counts), least_cost(counts))
        self.assertEqual(least_code([1] * 2000).lengths, (11,) * 1952 + (10,) * 48)
        self.assertLess(time.time() - began, 30)

    def test_nodes(self):
        rng = random.Random(53)
        for _ in range(30):
            words = random_words(rng, rng.randint(2, 9))
            code = Code([len(word) for word in words], words)
            self.assertEqual(sorted(code.tree.names, key=lambda node: (len(node), node)), nodes_told(code))


if __name__ == "__main__":
    unittest.main()
