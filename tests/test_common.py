"""Promise 43: one code for several tallies."""

import random
import time
import unittest

from tests.coders import cost_told, full_lengths, least_told, random_code
from tests.helpers import NO_INTEGERS, raised
from wordvault.codes import Code, cost, is_least, least_code, least_cost
from wordvault.common import Apart, Common, common, is_apart, is_common, lasts

GREAT = 10 ** 30


def have_common(rows):
    """Whether some full code is least for all rows."""
    return any(all(cost_told(lengths, row) == least_told(row) for row in rows) for lengths in full_lengths(len(rows[0])))


class CommonTest(unittest.TestCase):
    def test_held_against_all_codes(self):
        rng = random.Random(54)
        kinds = {True: 0, False: 0}
        for _ in range(200):
            signs = rng.randint(2, 5)
            rows = [[rng.randint(0, rng.choice([1, 3, 9])) for _ in range(signs)] for _ in range(rng.randint(1, 4))]
            told = common(rows)
            self.assertEqual(told.rows, tuple(tuple(row) for row in rows))
            if have_common(rows):
                self.assertIsInstance(told, Common)
                self.assertTrue(is_common(told))
                self.assertTrue(all(is_least(told.code, row) for row in rows))
                self.assertFalse(is_apart(Apart(rows, sum(map(least_cost, rows)), list(map(least_cost, rows)))))
                kinds[True] += 1
            else:
                self.assertIsInstance(told, Apart)
                self.assertEqual(told.whole, least_told([sum(column) for column in zip(*rows)]))
                self.assertEqual(told.parts, tuple(least_told(row) for row in rows))
                self.assertTrue(is_apart(told))
                self.assertFalse(any(is_common(Common(rows, Code(lengths))) for lengths in full_lengths(signs)))
                kinds[False] += 1
        self.assertGreater(min(kinds.values()), 20)

    def test_errors_in_order(self):
        self.assertEqual(raised(common, []), ("TooMany", "rows", 0, 2000))
        self.assertEqual(raised(common, [["x"]] * 2001), ("TooMany", "rows", 2001, 2000))
        self.assertEqual(raised(common, [[0, 1], [1], ["x", 2]]), ("TooMany", "signs", 1, 2000))
        self.assertEqual(raised(common, [[0, 1], ["x", 2], [1]]), ("BadTally", 0))
        self.assertEqual(raised(common, [[0, 1], [1, 1, 1], ["x", 2]]), ("OtherSize", 3, 2))
        self.assertEqual(raised(common, [[0, 1], [1, 1, None]]), ("BadTally", 2))

    def test_fields_of_any_kind(self):
        rows = ((1, 0, 0), (1, 1, 0), (1, 2, 0))
        fine = Common(rows[:2], least_code([2, 1, 0]))
        self.assertTrue(is_common(fine))
        for value in NO_INTEGERS + [0, "rows", (1, 0, 0), [[1]], [[1, 0, 0], [1, 0]], [[1, 0, True]], [[1, 0, -1]], [None]]:
            self.assertIs(is_common(Common(value, fine.code)), False)
            self.assertIs(is_apart(Apart(value, 9, (1, 3, 4))), False)
        for value in NO_INTEGERS + [0, Code([1, 1]), Code([2, 2, 2, 2]), Code([2, 2, 1])]:
            self.assertIs(is_common(Common(rows[:2], value)), False)
        self.assertTrue(is_common(Common(rows[:2], Code([1, 2, 2], ["1", "01", "00"]))))
        told = common(rows)
        self.assertTrue(is_apart(Apart([list(row) for row in rows], told.whole, list(told.parts))))
        for whole in NO_INTEGERS + [told.whole - 1, told.whole + 1]:
            self.assertIs(is_apart(Apart(rows, whole, told.parts)), False)
        for parts in NO_INTEGERS + [7, (1, 3), (1, 3, 4, 0), (1, 3, 3), (True, 3, 4), (1, 3, None), (0, 3, 4)]:
            self.assertIs(is_apart(Apart(rows, told.whole, parts)), False)

    def test_many_rows(self):
        began = time.time()
        rows = [[sign + number for sign in range(50)] for number in range(2000)]
        told = common(rows)
        self.assertIs(isinstance(told, Common), is_common(Common(rows, least_code([sum(column) for column in zip(*rows)]))))
        self.assertLess(time.time() - began, 60)


class LastsTest(unittest.TestCase):
    def test_held_against_steps(self):
        rng = random.Random(55)
        seen = {}
        for _ in range(300):
            signs = rng.randint(2, 5)
            counts = [rng.randint(0, 12) for _ in range(signs)]
            step = [rng.choice([0, 0, 1, 2, 5]) for _ in range(signs)]
            codes = [Code(lengths) for lengths in full_lengths(signs) if cost_told(lengths, counts) == least_told(counts)]
            code = rng.choice(codes)
            many = lasts(code, counts, step)
            seen[many is None, many == 0] = True
            for times in list(range(20)) + [99] + ([many, many + 1] if many is not None else []):
                row = [count + times * more for count, more in zip(counts, step)]
                self.assertIs(is_least(code, row), many is None or times <= many)
        self.assertEqual(len(seen), 3)

    def test_great_numbers(self):
        three = Code([1, 2, 2])
        for times in (1, 10 ** 6, 10 ** 30, 10 ** 39):
            self.assertEqual(lasts(three, [times, 0, 0], [0, 1, 0]), times)
            self.assertEqual(lasts(three, [7 * times + 3, 0, 0], [0, 7, 0]), times)
            self.assertEqual(lasts(three, [times, 0, 0], [0, 0, times]), 1)
        self.assertIsNone(lasts(three, [0, 0, 0], [10 ** 39, 0, 1]))
        rng = random.Random(56)
        for _ in range(30):
            counts = [rng.randint(0, GREAT) for _ in range(60)]
            step = [rng.randint(0, 10 ** rng.randint(0, 12)) for _ in range(60)]
            code = least_code(counts)
            many = lasts(code, counts, step)
            self.assertTrue(is_least(code, [count + many * more for count, more in zip(counts, step)]))
            self.assertFalse(is_least(code, [count + (many + 1) * more for count, more in zip(counts, step)]))

    def test_greatest_code(self):
        began = time.time()
        rng = random.Random(57)
        counts = [rng.randint(0, GREAT) for _ in range(2000)]
        step = [rng.randint(0, 9) for _ in range(2000)]
        code = least_code(counts)
        many = lasts(code, counts, step)
        self.assertTrue(is_least(code, [count + many * more for count, more in zip(counts, step)]))
        self.assertLess(time.time() - began, 30)

    def test_errors_in_order(self):
        three = Code([1, 2, 2])
        self.assertEqual(raised(lasts, three, [1], ["x"]), ("TooMany", "signs", 1, 2000))
        self.assertEqual(raised(lasts, three, [1, "x", 2], ["x"]), ("BadTally", 1))
        self.assertEqual(raised(lasts, three, [1, 2], ["x"]), ("OtherSize", 2, 3))
        self.assertEqual(raised(lasts, three, [0, 1, 1], ["x"]), ("TooMany", "signs", 1, 2000))
        self.assertEqual(raised(lasts, three, [0, 1, 1], [0, 0, True]), ("BadTally", 2))
        self.assertEqual(raised(lasts, three, [0, 1, 1], [0, 0, 1, 1]), ("OtherSize", 4, 3))
        self.assertEqual(raised(lasts, three, [0, 1, 1], [0, 0, 1]), ("NotLeast",))
        self.assertEqual(lasts(random_code(random.Random(1), 2), [0, 5], [3, 0]), None)
        self.assertEqual(cost(three, [1, 1, 1]), 5)


if __name__ == "__main__":
    unittest.main()
