"""Promise 49: bits that set all readers right."""

import itertools
import random
import unittest

from tests.coders import comb, full_lengths, nodes_told, random_code, read_plainly
from tests.helpers import NO_INTEGERS, raised
from wordvault.codes import Code
from wordvault.setting import setting, sets_right


def all_at_one(code, bits):
    return len({read_plainly(code, node, bits)[1] for node in nodes_told(code)}) == 1


def least_setting(code, most):
    for size in range(most + 1):
        for row in itertools.product("01", repeat=size):
            if all_at_one(code, "".join(row)):
                return size
    return None


class SettingTest(unittest.TestCase):
    def check(self, code, most):
        told, least = setting(code), least_setting(code, most)
        if told is None:
            self.assertIsNone(least)
        else:
            self.assertTrue(all_at_one(code, told))
            self.assertTrue(sets_right(code, told))
            self.assertTrue(len(told) == least if least is not None else len(told) > most)
        return told

    def test_held_against_all_short_rows(self):
        rng = random.Random(85)
        for lengths in full_lengths(4)[:20]:
            self.check(Code(lengths), 7)
        kinds = {}
        for _ in range(40):
            kinds[self.check(random_code(rng, rng.randint(2, 8)), 7) is None] = True
        self.assertEqual(len(kinds), 2)

    def test_no_setting(self):
        for code in (Code([2] * 4), Code([3] * 8)):
            self.assertIsNone(setting(code))
            self.assertIsNone(least_setting(code, 9))

    def test_bounds(self):
        self.assertEqual((setting(Code([1, 1])), setting(comb(13))), ("", "0"))
        self.assertEqual(raised(setting, comb(14)), ("TooMany", "signs", 14, 13))
        self.assertTrue(sets_right(comb(2000), "0"))
        self.assertFalse(sets_right(comb(2000), "1" * 2000))
        rng = random.Random(86)
        for _ in range(10):
            code = random_code(rng, 13)
            told = setting(code)
            self.assertTrue(told is None or all_at_one(code, told))

    def test_sets_right(self):
        rng = random.Random(87)
        for _ in range(40):
            code = random_code(rng, rng.randint(2, 20))
            for _ in range(10):
                bits = "".join(rng.choice("01") for _ in range(rng.randint(0, 12)))
                self.assertIs(sets_right(code, bits), all_at_one(code, bits))
        code = Code([1, 2, 2])
        for value, index in [(None, 0), (7, 0), (["0"], 0), ("2", 0), ("0102", 3), ("0" * 2001 + "x", 2001)]:
            self.assertEqual(raised(sets_right, code, value), ("BadBits", index))
        for value in NO_INTEGERS:
            if value not in ("", "1"):
                self.assertEqual(raised(sets_right, code, value), ("BadBits", 0))
        self.assertEqual(raised(sets_right, code, "0" * 2001), ("TooMany", "bits", 2001, 2000))


if __name__ == "__main__":
    unittest.main()
