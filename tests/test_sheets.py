"""Promise 52: sums of great texts of bits."""

import random
import time
import unittest

from tests.helpers import NO_INTEGERS, listed, raised, random_text
from tests.test_guards import random_guard, sum_told
from tests.test_texts import chain
from wordvault.guards import Guard, remainder
from wordvault.matrices import power
from wordvault.names import name_at
from wordvault.sheets import Sheet, number_of_sum, sums_text
from wordvault.texts import Text

GREAT = 10 ** 30
PARITY = Guard(2, [[1]], [[1]], [0], [0])


def symbols(bits):
    return [(bit,) for bit in bits]


class SheetsTest(unittest.TestCase):
    def test_held_against_lists(self):
        rng = random.Random(101)
        for number in range(150):
            text, row = random_text(rng, 2, rng.randint(1, 10), 150)
            guard = remainder(rng.randint(1, 16), 1) if number % 3 == 0 else random_guard(rng, width=1)
            block = rng.choice([1, 2, 3, 4, 5, 7, 8, 16, 33, 150, GREAT])
            sheet = Sheet(guard, text, block)
            self.assertEqual((sheet.guard, sheet.bits, sheet.block), (guard, text, block))
            sums = [sum_told(guard, symbols(row[first:first + block])) for first in range(0, len(row), block)]
            self.assertEqual(sheet.many, len(sums))
            self.assertEqual([sheet.sum_at(index) for index in range(sheet.many)], sums)
            for _ in range(5):
                first = rng.randint(0, len(row))
                many = rng.randint(0, len(row) - first)
                self.assertEqual(sheet.sum_over(first, many), sum_told(guard, symbols(row[first:first + many])))

    def test_many_numbers(self):
        rng = random.Random(105)
        for size in range(1, 17):
            guard = random_guard(rng, rng.choice([2, 6, 97, 10 ** 18, 10 ** 18 - 11]), size, 1)
            text, row = random_text(rng, 2, 8, 150)
            sheet = Sheet(guard, text, 37)
            for first in (0, len(row) // 3, len(row)):
                self.assertEqual(sheet.sum_over(first, len(row) - first), sum_told(guard, symbols(row[first:])))
            zeros = Sheet(guard, Text(2, {"A": [(0, GREAT)]}, "A"), GREAT)
            matrix = power(guard.modulus, guard.matrix, GREAT)
            wished = [sum(one * more for one, more in zip(line, guard.start)) + end for line, end in zip(matrix, guard.end)]
            self.assertEqual(zeros.sum_at(0), tuple(number % guard.modulus for number in wished))

    def test_deep_names(self):
        began = time.time()
        guard = remainder(16, 0x1021)
        deep = Sheet(guard, chain(1000, GREAT), GREAT)
        first = deep.bits.size // 3
        self.assertEqual(deep.sum_over(first, 50), guard.sum_of(symbols(deep.bits.part(first, 50))))
        # A sum is that of the first bits, with the last ones behind.
        half = deep.bits.size // 7
        ahead = Guard(2, guard.matrix, guard.columns, deep.sum_over(0, half), [0] * 16)
        behind = Sheet(ahead, deep.bits, GREAT).sum_over(half, deep.bits.size - half)
        self.assertEqual(deep.sum_over(0, deep.bits.size), behind)
        self.assertLess(time.time() - began, 90)

    def test_errors_in_order(self):
        wide = Guard(2, [[1]], [[1, 1]], [0], [0])
        bits, signs = Text(2, {"A": [(0, 5)]}, "A"), Text(3, {"A": [(0, 5)]}, "A")
        self.assertEqual(raised(Sheet, wide, signs, "x"), ("BadWidth", 2))
        self.assertEqual(raised(Sheet, PARITY, signs, "x"), ("BadSigns", 3))
        for value in NO_INTEGERS + [0, -1, GREAT + 1]:
            self.assertEqual(raised(Sheet, PARITY, bits, value), ("BadBlock", value))
        sheet = Sheet(PARITY, bits, 2)
        for value in NO_INTEGERS + [-1, 3, GREAT]:
            self.assertEqual(raised(sheet.sum_at, value), ("BadPlace", value))
        for value in NO_INTEGERS + [-1, 6, GREAT]:
            self.assertEqual(raised(sheet.sum_over, value, "x"), ("BadPlace", value))
            self.assertEqual(raised(sheet.sum_over, 0, value), ("BadSize", value))
        self.assertEqual(raised(sheet.sum_over, 2, 4), ("BadSize", 4))
        self.assertEqual(sheet.sum_over(5, 0), (0,))

    def test_no_bits(self):
        sheet = Sheet(PARITY, Text(2, {"A": []}, "A"), 3)
        self.assertEqual((sheet.many, raised(sheet.sum_at, 0)), (0, ("BadPlace", 0)))
        text = sums_text(sheet)
        self.assertEqual((text.size, text.signs), (0, 2))

    def test_great_texts(self):
        began = time.time()
        guard = remainder(16, 0x1021)
        text = Text(2, {"A": [("B", GREAT), (1, 1)], "B": [(0, 2), (1, 1)]}, "A")
        sheet = Sheet(guard, text, 3 * 10 ** 20)
        self.assertEqual(sheet.many, 10 ** 10 + 1)
        self.assertEqual(sheet.sum_at(0), sheet.sum_at(10 ** 10 - 1))
        self.assertEqual(sheet.sum_at(10 ** 10), guard.sum_of([(1,)]))
        # Zeros: the state is multiplied again and again.
        start = Guard(10 ** 18, [[1, 1], [2, 3]], [[0], [0]], [1, 2], [0, 5])
        zeros = Sheet(start, Text(2, {"A": [(0, GREAT)]}, "A"), GREAT)
        matrix = power(10 ** 18, start.matrix, GREAT)
        wished = tuple((row[0] + row[1] * 2 + more) % 10 ** 18 for row, more in zip(matrix, (0, 5)))
        self.assertEqual(zeros.sum_at(0), wished)
        deep = Sheet(Guard(97, [[5]], [[1]], [1], [0]), chain(2000, GREAT), GREAT)
        first = deep.bits.size // 3
        told = deep.sum_over(first, 50)
        self.assertEqual(told, deep.guard.sum_of(symbols(deep.bits.part(first, 50))))
        self.assertLess(time.time() - began, 60)

    def test_number_of_sum(self):
        guard = Guard(10, [[1, 0, 0], [0, 1, 0], [0, 0, 1]], [[1]] * 3, [0] * 3, [0] * 3)
        self.assertEqual([number_of_sum(guard, told) for told in ((1, 2, 3), (0, 0, 9), (9, 9, 9))], [123, 9, 999])
        self.assertEqual(number_of_sum(Guard(10 ** 18, [[1]], [[1]], [0], [0]), (7,)), 7)


class SumsTextTest(unittest.TestCase):
    def test_held_against_lists(self):
        rng = random.Random(102)
        for number in range(400):
            text, row = random_text(rng, 2, rng.randint(1, 10), 400)
            guard = remainder(rng.randint(1, 10), 1) if number % 2 else random_guard(rng, rng.choice([2, 3, 5]), None, 1)
            block = rng.choice([1, 2, 3, 4, 5, 6, 7, 8, 12, 16, 17, 33, 512])
            told = sums_text(Sheet(guard, text, block))
            sums = [sum_told(guard, symbols(row[first:first + block])) for first in range(0, len(row), block)]
            self.assertEqual(listed(told), [number_of_sum(guard, one) for one in sums])
            self.assertEqual(told.signs, guard.modulus ** guard.size)

    def test_blocks_over_names(self):
        rng = random.Random(103)
        for _ in range(60):
            block = rng.randint(2, 16)
            rules = {"A": [("B", rng.randint(1, 50)), (1, 1), ("C", rng.randint(1, 9))],
                     "B": [("C", rng.randint(1, 4)), (rng.randint(0, 1), rng.randint(1, 40))],
                     "C": [(0, rng.randint(1, 40)), (1, rng.randint(1, 3))]}
            text = Text(2, rules, "A")
            row = listed(text)
            told = sums_text(Sheet(remainder(4, 3), text, block))
            sums = [sum_told(remainder(4, 3), symbols(row[first:first + block])) for first in range(0, len(row), block)]
            self.assertEqual(listed(told), [number_of_sum(remainder(4, 3), one) for one in sums])

    def test_bounds(self):
        text = Text(2, {"A": [(0, 5)]}, "A")
        self.assertEqual(raised(sums_text, Sheet(remainder(16, 1), text, 513)), ("TooMany", "bits", 513, 512))
        self.assertEqual(raised(sums_text, Sheet(remainder(16, 1), text, 512)), ("TooMany", "sums", 65536, 2000))
        self.assertEqual(raised(sums_text, Sheet(remainder(11, 1), text, 1)), ("TooMany", "sums", 2048, 2000))
        great = Guard(10 ** 18, [[1]], [[1]], [0], [0])
        self.assertEqual(raised(sums_text, Sheet(great, text, 1)), ("TooMany", "sums", 10 ** 18, 2000))
        self.assertEqual(sums_text(Sheet(Guard(2000, [[1]], [[1]], [1999], [0]), text, 2)).part(0, 3), (1999,) * 3)
        self.assertEqual(sums_text(Sheet(remainder(10, 3), text, 512)).signs, 1024)

    def test_great_texts(self):
        began = time.time()
        guard = Guard(3, [[2]], [[1]], [0], [1])
        text = Text(2, {"A": [("B", GREAT), (1, GREAT), ("C", 5)], "B": [(0, 3), (1, 4), ("C", 2)], "C": [(1, 9), (0, 2)]}, "A")
        for block in (1, 2, 7, 16, 29, 58, 100, 512):
            sheet = Sheet(guard, text, block)
            told = sums_text(sheet)
            self.assertEqual(told.size, sheet.many)
            for index in [0, 1, 10 ** 20, sheet.many // 2, 29 * GREAT // block, 29 * GREAT // block - 1, sheet.many - 2, sheet.many - 1]:
                self.assertEqual(told.sign_of(index), number_of_sum(guard, sheet.sum_at(index)))
        self.assertLess(time.time() - began, 60)

    def test_no_more_rules_than_may_be(self):
        # 16 bits a block, or fewer, and 480 pairs and bits: no error may be raised.
        rng = random.Random(104)
        for _ in range(300):
            block = rng.choice([16, 16, 15, 13, 11, 8, 5, 3, 2, 1])
            rules, left = {}, 480 // block
            while left:
                many = min(left, rng.choice([1, 2, 3, 40]))
                row = []
                for at in range(many):
                    count = rng.choice([1, 2, 15, 16, 17, 33, GREAT, GREAT - rng.randint(0, 40)])
                    if rules and (at == 0 or rng.random() < 0.5):
                        row.append((name_at(rng.choice([len(rules) - 1, rng.randrange(len(rules))])), count))
                    else:
                        row.append((rng.randint(0, 1), count))
                rules[name_at(len(rules))] = row
                left -= many
            sheet = Sheet(Guard(1009, [[3]], [[1]], [0], [0]), Text(2, rules, name_at(len(rules) - 1)), block)
            told = sums_text(sheet)
            self.assertEqual(told.size, sheet.many)
            index = rng.randrange(sheet.many)
            self.assertEqual((told.sign_of(index),), sheet.sum_at(index))

    def test_too_many_rules(self):
        text = chain(2000, 10 ** 30 - 1)
        error = raised(sums_text, Sheet(PARITY, text, 512))
        self.assertEqual((error[:2], error[3]), (("TooMany", "rules"), 2000))
        self.assertGreater(error[2], 2000)


if __name__ == "__main__":
    unittest.main()
