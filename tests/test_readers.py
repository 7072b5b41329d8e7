"""Promises 47 and 48: readers that stand anywhere, and what damage does to them."""

import random
import time
import unittest

from tests.coders import comb, nodes_told, random_code, read_plainly
from tests.helpers import NO_INTEGERS, raised, random_text
from tests.test_texts import chain
from wordvault.coded import Coded
from wordvault.codes import Code
from wordvault.readers import (added_bits, all_right_from, lost_bits, node_behind, read_sign, right_from, signs_behind,
                               turned_bit)
from wordvault.texts import Text

GREAT = 10 ** 30
ELEVENS = Coded(Code([1, 2, 2]), Text(3, {"A": [(2, GREAT), (0, 1)]}, "A"))


def right_told(code, bits, place, node):
    """The least place from this one on at which the reader and the right one stand at the root."""
    for end in range(place, len(bits) + 1):
        if read_plainly(code, node, bits[place:end])[1] == "" and read_plainly(code, "", bits[:end])[1] == "":
            return end
    return None


def touched_told(code, row, place, right):
    """How many signs have a bit from a place on, ahead of another one."""
    at, many = 0, 0
    for sign in row:
        end = at + len(code.words[sign])
        if any(place <= bit and (right is None or bit < right) for bit in range(at, end)):
            many += 1
        at = end
    return many


def some_codings(seed, many):
    rng = random.Random(seed)
    for _ in range(many):
        code = random_code(rng, rng.randint(2, 6))
        text, row = random_text(rng, code.size, rng.randint(1, 6), 12)
        coded = Coded(code, text)
        yield rng, coded, row, "".join(code.words[sign] for sign in row)


class ReadersTest(unittest.TestCase):
    def test_held_against_bits_read_one_by_one(self):
        for rng, coded, _, bits in some_codings(82, 60):
            for node in nodes_told(coded.code):
                for place in range(len(bits) + 1):
                    for many in {0, 1, len(bits) - place, rng.randint(0, len(bits) - place)}:
                        if many <= len(bits) - place:
                            signs, behind = read_plainly(coded.code, node, bits[place:place + many])
                            self.assertEqual(node_behind(coded, place, node, many), behind)
                            self.assertEqual(signs_behind(coded, place, node, many), len(signs))
                    signs, _ = read_plainly(coded.code, node, bits[place:])
                    for count, (sign, number) in enumerate(signs):
                        self.assertEqual(read_sign(coded, place, node, count), (sign, place + number))
                    self.assertIsNone(read_sign(coded, place, node, len(signs)))
                    self.assertIsNone(read_sign(coded, place, node, GREAT))

    def test_right(self):
        never = 0
        for _, coded, _, bits in some_codings(83, 60):
            for place in range(len(bits) + 1):
                told = [right_told(coded.code, bits, place, node) for node in nodes_told(coded.code)]
                self.assertEqual([right_from(coded, place, node) for node in nodes_told(coded.code)], told)
                self.assertEqual(all_right_from(coded, place), None if None in told else max(told))
                never += told.count(None)
        self.assertGreater(never, 100)

    def test_errors_in_order(self):
        coded = Coded(Code([1, 2, 3, 3]), Text(4, {"A": [(1, 2), (0, 1)]}, "A"))
        calls = [lambda *given: node_behind(*given, "x"), lambda *given: signs_behind(*given, "x"),
                 lambda *given: read_sign(*given, "x"), right_from]
        for call in calls:
            for value in NO_INTEGERS + [-1, 6, GREAT]:
                self.assertEqual(raised(call, coded, value, "x"), ("BadPlace", value))
            for value in NO_INTEGERS + [0, "0", "10", "111", "01", "2"]:
                if value not in ("", "1", "11"):
                    self.assertEqual(raised(call, coded, 5, value), ("BadNode", value))
        for value in NO_INTEGERS + [-1, 6, GREAT]:
            self.assertEqual(raised(all_right_from, coded, value), ("BadPlace", value))
        for value in NO_INTEGERS + [-1, 4, GREAT]:
            self.assertEqual(raised(node_behind, coded, 2, "11", value), ("BadSize", value))
            self.assertEqual(raised(signs_behind, coded, 2, "11", value), ("BadSize", value))
        for value in NO_INTEGERS + [-1]:
            self.assertEqual(raised(read_sign, coded, 2, "11", value), ("BadCount", value))

    def test_great_texts(self):
        self.assertEqual(right_from(ELEVENS, 1, ""), ELEVENS.size)
        self.assertEqual(right_from(ELEVENS, 2 * 10 ** 20, ""), 2 * 10 ** 20)
        self.assertEqual(right_from(ELEVENS, 2 * 10 ** 20, "1"), ELEVENS.size)
        self.assertEqual(all_right_from(ELEVENS, 7), ELEVENS.size)
        self.assertIsNone(all_right_from(ELEVENS, ELEVENS.size))
        self.assertEqual(node_behind(ELEVENS, 5, "1", 10 ** 30 + 1), "")
        self.assertEqual(signs_behind(ELEVENS, 0, "", ELEVENS.size), GREAT + 1)
        self.assertEqual(read_sign(ELEVENS, 0, "1", GREAT - 1), (2, ELEVENS.size - 2))
        self.assertEqual(read_sign(ELEVENS, 0, "1", GREAT), (1, ELEVENS.size))
        self.assertIsNone(read_sign(ELEVENS, 0, "1", GREAT + 1))

    def test_readers_that_are_never_right(self):
        code = Code([2, 2, 2, 2])
        coded = Coded(code, Text(4, {"A": [("B", GREAT)], "B": [(0, 3), (2, GREAT)]}, "A"))
        self.assertIsNone(right_from(coded, 0, "1"))
        self.assertIsNone(right_from(coded, 1, ""))
        self.assertIsNone(all_right_from(coded, 10 ** 40))
        self.assertEqual(right_from(coded, 1, "0"), 2)
        self.assertEqual(lost_bits(coded, 5, 1), (coded.text.size - 2, None))
        self.assertEqual(all_right_from(Coded(Code([1, 1]), Text(2, {"A": [(0, GREAT)]}, "A")), 10 ** 20), 10 ** 20)

    def test_many_nodes(self):
        began = time.time()
        code = comb(2000)
        text = Text(2000, {"A": [("B", GREAT), (0, 1)], "B": [(1999, 3), (5, 1)]}, "A")
        coded = Coded(code, text)
        # The 0 that ends 1 1 1 1 1 0 sets all right.
        self.assertEqual(all_right_from(coded, 0), 3 * 1999 + 6)
        self.assertEqual(all_right_from(coded, coded.size - 1), coded.size)
        self.assertEqual(right_from(coded, 3, "1" * 1998), 3 * 1999 + 6)
        deep = Coded(Code([1, 2, 2]), mapped_chain())
        told = [right_from(deep, deep.size // 3, node) for node in ("", "1")]
        self.assertEqual(all_right_from(deep, deep.size // 3), max(told))
        self.assertLess(time.time() - began, 60)


def mapped_chain():
    text = chain(2000, GREAT)
    return Text(3, text.rules, text.root)


class DamageTest(unittest.TestCase):
    def test_held_against_bits_read_one_by_one(self):
        for rng, coded, row, bits in some_codings(84, 60):
            code = coded.code
            for place in range(len(bits)):
                node = read_plainly(code, "", bits[:place])[1]
                other = "1" if bits[place] == "0" else "0"
                right = right_told(code, bits, place + 1, read_plainly(code, node, other)[1])
                self.assertEqual(turned_bit(coded, place), (touched_told(code, row, place, right), right))
                for many in {1, len(bits) - place, rng.randint(1, len(bits) - place)}:
                    right = right_told(code, bits, place + many, node)
                    self.assertEqual(lost_bits(coded, place, many), (touched_told(code, row, place, right), right))
                for added in ("", "0", "1", "".join(rng.choice("01") for _ in range(rng.randint(2, 9)))):
                    right = right_told(code, bits, place, read_plainly(code, node, added)[1])
                    self.assertEqual(added_bits(coded, place, added), (touched_told(code, row, place, right), right))

    def test_errors_in_order(self):
        coded = Coded(Code([1, 2, 2]), Text(3, {"A": [(1, 2), (0, 1)]}, "A"))
        for value in NO_INTEGERS + [-1, 5, GREAT]:
            self.assertEqual(raised(turned_bit, coded, value), ("BadPlace", value))
            self.assertEqual(raised(lost_bits, coded, value, "x"), ("BadPlace", value))
            self.assertEqual(raised(added_bits, coded, value, 7), ("BadPlace", value))
        for value in NO_INTEGERS + [0, -1, 4, GREAT]:
            self.assertEqual(raised(lost_bits, coded, 2, value), ("BadSize", value))
        for value, index in [(None, 0), (7, 0), (["0"], 0), (True, 0), ("2", 0), ("012", 2), ("01 ", 2), ("a" * 3000, 0),
                             ("0" * 2000 + "x", 2000), (("0", "1"), 0)]:
            self.assertEqual(raised(added_bits, coded, 2, value), ("BadBits", index))
        self.assertEqual(raised(added_bits, coded, 2, "0" * 2001), ("TooMany", "bits", 2001, 2000))
        self.assertEqual(added_bits(coded, 2, "0" * 2000), (0, 2))

    def test_great_texts(self):
        size = ELEVENS.size
        self.assertEqual(turned_bit(ELEVENS, size - 1), (1, None))
        self.assertEqual(turned_bit(ELEVENS, 2 * 10 ** 20), (GREAT - 10 ** 20 + 1, size))
        self.assertEqual(turned_bit(ELEVENS, 2 * 10 ** 20 + 1), (1, 2 * 10 ** 20 + 2))
        self.assertEqual(lost_bits(ELEVENS, 1, 2 * 10 ** 20), (10 ** 20 + 1, 2 * 10 ** 20 + 2))
        self.assertEqual(lost_bits(ELEVENS, 0, size), (GREAT + 1, size))
        self.assertEqual(added_bits(ELEVENS, 10 ** 20, "1"), (GREAT - 10 ** 20 // 2 + 1, size))
        self.assertEqual(added_bits(ELEVENS, size - 1, "10"), (0, size - 1))


if __name__ == "__main__":
    unittest.main()
