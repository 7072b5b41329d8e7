"""Promises 4 to 7 and 44: codes to which signs come, and from which signs go."""

import random
import time
import unittest

from tests.coders import comb, full_lengths, least_told, random_code
from tests.helpers import NO_INTEGERS, raised
from wordvault.codes import Code, cost, is_least, least_code, least_cost
from wordvault.maps import NumberMap
from wordvault.renumbered import (Kept, Recoded, carried, is_kept, is_recoded, kept_code, put_counted, put_sign,
                                  strike_sign)

GREAT = 10 ** 30


def parted_words(words, sign, rank):
    """The words with one more by the parting of a sign."""
    told = [word + "0" if number == sign else word for number, word in enumerate(words)]
    return tuple(told[:rank] + [words[sign] + "1"] + told[rank:])


def struck_words(words, sign):
    head, last = words[sign][:-1], words[sign][-1]
    told = []
    for number, word in enumerate(words):
        if number != sign:
            brother = word.startswith(head) and word[len(head)] != last
            told.append(head + word[len(head) + 1:] if brother else word)
    return tuple(told)


def by_rule(words, counts, rank):
    return parted_words(words, min(range(len(counts)), key=lambda sign: (counts[sign], sign)), rank)


def random_counts(rng, signs):
    return [rng.choice([0, 0, 1, 1, 2, rng.randint(0, 9)]) for _ in range(signs)]


class PutAndStruckTest(unittest.TestCase):
    def test_at_every_number(self):
        rng = random.Random(61)
        for _ in range(100):
            code = random_code(rng, rng.randint(2, 7))
            counts = random_counts(rng, code.size)
            for rank in range(code.size + 1):
                told = put_sign(code, counts, rank)
                self.assertEqual(told.words, by_rule(code.words, counts, rank))
                self.assertEqual(strike_sign(told, rank), code)
                more = counts[:rank] + [0] + counts[rank:]
                self.assertIs(is_least(told, more), is_least(code, counts))
            for sign in range(code.size):
                if code.size > 2:
                    told = strike_sign(code, sign)
                    self.assertEqual(told.words, struck_words(code.words, sign))

    def test_a_least_code_stays_least(self):
        rng = random.Random(62)
        for _ in range(100):
            counts = random_counts(rng, rng.randint(3, 6))
            sign = rng.randrange(len(counts))
            counts[sign] = 0
            left = counts[:sign] + counts[sign + 1:]
            codes = [Code(lengths) for lengths in full_lengths(len(counts))]
            code = rng.choice([code for code in codes if is_least(code, counts)])
            told = strike_sign(code, sign)
            self.assertTrue(is_least(told, left))
            # Its brothers come as often as the least count of the others tells.
            moved = sum(count for count, word, ahead in zip(left, told.words, code.words[:sign] + code.words[sign + 1:])
                        if word != ahead)
            self.assertEqual(moved, min(left))

    def test_errors_in_order(self):
        code = Code([1, 2, 2])
        self.assertEqual(raised(put_sign, code, [1], "x"), ("TooMany", "signs", 1, 2000))
        self.assertEqual(raised(put_sign, code, [1, -1], "x"), ("BadTally", 1))
        self.assertEqual(raised(put_sign, code, [1, 1], "x"), ("OtherSize", 2, 3))
        for value in NO_INTEGERS + [-1, 4, GREAT]:
            self.assertEqual(raised(put_sign, code, [1, 1, 1], value), ("BadRank", value))
        great = comb(2000)
        self.assertEqual(raised(put_sign, great, [1] * 2000, 2001), ("BadRank", 2001))
        self.assertEqual(raised(put_sign, great, [1] * 2000, 2000), ("TooMany", "signs", 2001, 2000))
        self.assertEqual(put_sign(comb(1999), [2] * 1998 + [1], 0).longest, 1999)
        for value in NO_INTEGERS + [-1, 3]:
            self.assertEqual(raised(strike_sign, code, value), ("BadSign", value))
        for value in NO_INTEGERS + [-1, 2]:
            self.assertEqual(raised(strike_sign, Code([1, 1]), value), ("BadSign", value))
        self.assertEqual(raised(strike_sign, Code([1, 1]), 1), ("TooMany", "signs", 1, 2000))


class CarriedTest(unittest.TestCase):
    def test_held_against_steps(self):
        rng = random.Random(63)
        for _ in range(200):
            code = random_code(rng, rng.randint(2, 7))
            numbers, number, counts = [], 0, []
            for _ in range(code.size):
                number += rng.choice([0, 0, 1, 2])
                if rng.random() < 0.3:
                    numbers.append(None)
                    counts.append(0)
                else:
                    numbers.append(number)
                    counts.append(rng.choice([0, 1, 2, 5]))
                    number += 1
            many = number + rng.choice([0, 0, 1, 3])
            told = NumberMap(many, numbers)
            left = code.size - numbers.count(None)
            if left < 2:
                self.assertEqual(raised(carried, code, counts, told), ("TooMany", "signs", left, 2000))
                continue
            words, row = code.words, list(counts)
            for sign in range(code.size - 1, -1, -1):
                if numbers[sign] is None:
                    words = struck_words(words, sign)
                    del row[sign]
            for rank in range(many):
                if rank not in numbers:
                    words = by_rule(words, row, rank)
                    row.insert(rank, 0)
            self.assertEqual(carried(code, counts, told).words, words)
            self.assertEqual(len(words), many)
            if is_least(code, counts):
                self.assertTrue(is_least(carried(code, counts, told), row))

    def test_the_same_map(self):
        code = Code([2, 2, 2, 2])
        self.assertEqual(carried(code, [0, 1, 2, 3], NumberMap(4, [0, 1, 2, 3])), code)

    def test_errors_in_order(self):
        code = Code([1, 2, 2])
        none = NumberMap(2, [None, None])
        self.assertEqual(raised(carried, code, [1], none), ("TooMany", "signs", 1, 2000))
        self.assertEqual(raised(carried, code, [1, None, 2], none), ("BadTally", 1))
        self.assertEqual(raised(carried, code, [1, 1], none), ("OtherSize", 2, 3))
        self.assertEqual(raised(carried, code, [1, 1, 1], none), ("OtherSize", 2, 3))
        self.assertEqual(raised(carried, code, [1, 0, 0], NumberMap(4, [0, 1, 2, 3])), ("OtherSize", 4, 3))
        self.assertEqual(raised(carried, code, [0, 1, 1], NumberMap(0, [None] * 3)), ("Counted", 1))
        self.assertEqual(raised(carried, code, [0, 0, 0], NumberMap(0, [None] * 3)), ("TooMany", "signs", 0, 2000))
        self.assertEqual(raised(carried, code, [0, 1, 0], NumberMap(9, [None, 4, None])), ("TooMany", "signs", 1, 2000))

    def test_great_maps(self):
        began = time.time()
        code = comb(2000)
        counts = [1, 1] + [0] * 1998
        told = carried(code, counts, NumberMap(2000, [1998, 1999] + [None] * 1998))
        self.assertEqual((told.size, is_least(told, [0] * 1998 + [1, 1])), (2000, True))
        self.assertLess(time.time() - began, 30)


class PutCountedTest(unittest.TestCase):
    def test_held_against_all_parted_codes(self):
        rng = random.Random(64)
        kinds = {"Kept": 0, "Recoded": 0}
        for _ in range(200):
            signs = rng.randint(2, 5)
            counts = random_counts(rng, signs)
            code = least_code(counts) if rng.random() < 0.7 else random_code(rng, signs)
            for count in (0, 1, 2, 4, 9):
                rank = rng.randint(0, signs)
                more = counts[:rank] + [count] + counts[rank:]
                parted = [parted_words(code.words, sign, rank) for sign in range(signs)]
                least = [sign for sign, words in enumerate(parted)
                         if is_least(Code([len(word) for word in words], words), more)]
                told = put_counted(code, counts, rank, count)
                self.assertEqual((told.code, told.counts, told.rank, told.count), (code, tuple(counts), rank, count))
                kinds[type(told).__name__] += 1
                if least:
                    self.assertIsInstance(told, Kept)
                    self.assertEqual((told.sign, kept_code(told).words), (least[0], parted[least[0]]))
                    self.assertTrue(is_kept(told))
                    self.assertFalse(is_recoded(Recoded(code, counts, rank, count, least_code(more))))
                else:
                    self.assertIsInstance(told, Recoded)
                    self.assertEqual(cost(told.other, more), least_told(more))
                    self.assertTrue(is_recoded(told))
                for sign in range(signs):
                    self.assertIs(is_kept(Kept(code, counts, rank, count, sign)), sign in least)
        self.assertGreater(min(kinds.values()), 100)

    def test_great_counts(self):
        code = Code([1, 2, 2])
        told = put_counted(code, [GREAT, GREAT, GREAT], 0, GREAT)
        self.assertEqual((type(told).__name__, told.sign), ("Kept", 0))
        told = put_counted(code, [GREAT, 1, 1], 3, GREAT ** 3)
        self.assertEqual((type(told).__name__, cost(told.other, [GREAT, 1, 1, GREAT ** 3])),
                         ("Recoded", least_cost([GREAT, 1, 1, GREAT ** 3])))

    def test_errors_in_order(self):
        code = Code([1, 2, 2])
        self.assertEqual(raised(put_counted, code, [1], "x", "x"), ("TooMany", "signs", 1, 2000))
        self.assertEqual(raised(put_counted, code, [1, "x"], "x", "x"), ("BadTally", 1))
        self.assertEqual(raised(put_counted, code, [1, 1], "x", "x"), ("OtherSize", 2, 3))
        self.assertEqual(raised(put_counted, code, [1, 1, 1], 4, "x"), ("BadRank", 4))
        great = comb(2000)
        for value in NO_INTEGERS + [-1]:
            self.assertEqual(raised(put_counted, code, [1, 1, 1], 3, value), ("BadCount", value))
            self.assertEqual(raised(put_counted, great, [1] * 2000, 3, value), ("BadCount", value))
        self.assertEqual(raised(put_counted, great, [1] * 2000, 0, 0), ("TooMany", "signs", 2001, 2000))

    def test_fields_of_any_kind(self):
        code, counts = Code([1, 2, 3, 3]), [4, 2, 1, 1]
        self.assertTrue(is_kept(Kept(code, counts, 4, 1, 2)))
        self.assertTrue(is_kept(Kept(code, counts, 4, 1, 1)))
        fine = put_counted(code, counts, 4, 5)
        self.assertTrue(is_recoded(Recoded(code, counts, 4, 5, fine.other)))
        bent = [(value, counts, 4) for value in NO_INTEGERS + [7, Code([1, 1])]]
        bent += [(code, value, 4) for value in NO_INTEGERS + [7, [4, 2, 1], [4, 2, 1, True], [4, 2, 1, -1], {0: 4}, counts + [0]]]
        bent += [(code, counts, value) for value in NO_INTEGERS + [-1, 5]]
        for one, row, rank in bent:
            self.assertIs(is_kept(Kept(one, row, rank, 1, 1)), False)
            self.assertIs(is_recoded(Recoded(one, row, rank, 5, fine.other)), False)
        for value in NO_INTEGERS + [-1]:
            self.assertIs(is_kept(Kept(code, counts, 4, value, 1)), False)
            self.assertIs(is_recoded(Recoded(code, counts, 4, value, fine.other)), False)
        for value in NO_INTEGERS + [-1, 0, 4]:
            self.assertIs(is_kept(Kept(code, counts, 4, 1, value)), False)
        for value in NO_INTEGERS + [7, code, Code([2, 2, 2, 3, 3]), Code([1, 2, 3, 4, 4])]:
            self.assertIs(is_recoded(Recoded(code, counts, 4, 5, value)), False)
        great = comb(2000)
        self.assertIs(is_kept(Kept(great, [1] * 2000, 0, 0, 0)), False)


if __name__ == "__main__":
    unittest.main()
