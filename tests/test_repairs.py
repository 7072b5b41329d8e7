"""Promise 62: texts that may have been."""

import itertools
import random
import time
import unittest

from tests.coders import random_code, read_plainly
from tests.helpers import NO_INTEGERS, raised
from tests.layers import random_layout
from tests.test_layouts import sums_told, turned_told
from wordvault.codes import Code
from wordvault.damages import Turned
from wordvault.guards import Guard, remainder
from wordvault.layouts import Layout
from wordvault.noticed import Noticed, judge_damage
from wordvault.repairs import candidates

PARITY = Guard(2, [[1]], [[1]], [0], [0])


def candidates_told(layout, bits, sums, most):
    """All of them, held against all places."""
    told = []
    for many in range(most + 1):
        for places in itertools.combinations(range(len(bits)), many):
            damaged = turned_told(bits, places)
            if sums_told(layout, damaged) == sums and read_plainly(layout.code, "", damaged)[1] == "":
                told.append(places)
    return told


class RepairsTest(unittest.TestCase):
    def test_held_against_all_places(self):
        rng = random.Random(171)
        many = 0
        for _ in range(300):
            layout = random_layout(rng)
            bits = "".join(rng.choice("01") for _ in range(rng.randint(0, 9)))
            other = "".join(rng.choice("01") for _ in bits)
            if rng.random() < 0.6:
                other = turned_told(bits, rng.sample(range(len(bits)), min(len(bits), rng.randint(0, 3))))
            sums = sums_told(layout, other)
            most = rng.randint(0, 3)
            told = list(candidates(layout, bits, sums, most))
            self.assertEqual(told, candidates_told(layout, bits, sums, most))
            many += len(told)
        self.assertGreater(many, 500)

    def test_the_damage_is_among_them(self):
        rng = random.Random(172)
        for _ in range(60):
            layout = random_layout(rng)
            bits = "".join(rng.choice(layout.code.words) for _ in range(12))
            places = tuple(sorted(rng.sample(range(len(bits)), min(3, len(bits)))))
            told = list(candidates(layout, turned_told(bits, places), layout.sums_of(bits), 3))
            self.assertIn(places, told)
            if isinstance(judge_damage(layout, Turned(2)), Noticed):
                self.assertEqual(list(candidates(layout, turned_told(bits, places[:1]), layout.sums_of(bits), 1)), [places[:1]])

    def test_sums_that_are_none(self):
        code = Code([1, 2, 2])
        layout = Layout(code, PARITY, 2)
        for sums in [(), ((0,),), ((0,), (0,), (0,)), ((0,), (2,)), ((0,), (-1,)), ((0, 0), (0, 0)), ((), ())]:
            self.assertEqual(list(candidates(layout, "000", sums, 3)), [])
        self.assertEqual(list(candidates(layout, "000", ((0,), (0,)), 0)), [()])
        self.assertEqual(list(candidates(layout, "", (), 3)), [()])
        self.assertEqual(list(candidates(Layout(code, PARITY, None), "", ((0,),), 3)), [()])
        self.assertEqual(list(candidates(Layout(code, PARITY, None), "", ((1,),), 3)), [])

    def test_told_as_soon_as_found(self):
        began = time.time()
        # All of some million triples would do: the first ones are told at once.
        layout = Layout(Code([1, 2, 2]), Guard(2, [[1]], [[0]], [0], [0]), None)
        # The last bit turned leaves a reader at the node 1; any other one alone as well, behind 1 comes 0.
        found = candidates(layout, "0" * 200, ((0,),), 3)
        self.assertEqual([next(found) for _ in range(4)], [(), (0,), (1,), (2,)])
        self.assertLess(time.time() - began, 1)

    def test_two_hundred_bits(self):
        began = time.time()
        rng = random.Random(173)
        code = random_code(rng, 9)
        for guard in (remainder(16, 0x1021), PARITY):
            for block in (None, 7, 100):
                layout = Layout(code, guard, block)
                bits = ""
                while len(bits) < 190:
                    bits += rng.choice(code.words)
                bits = bits[:200]
                places = (3, 77, 150)
                told = list(candidates(layout, turned_told(bits, places), layout.sums_of(bits), 3))
                if read_plainly(code, "", bits)[1] == "":
                    self.assertIn(places, told)
                self.assertEqual(told, sorted(told, key=lambda one: (len(one), one)))
        self.assertLess(time.time() - began, 60)

    def test_errors_in_order(self):
        layout = Layout(Code([1, 2, 2]), PARITY, None)

        def first(*given):
            return next(candidates(*given), None)

        for value, index in [(None, 0), (7, 0), (["0"], 0), ("2", 0), ("01x", 2), ("0" * 200 + "x", 200), (True, 0), ({}, 0)]:
            self.assertEqual(raised(first, layout, value, (), "x"), ("BadBits", index))
        self.assertEqual(raised(first, layout, "0" * 201, (), "x"), ("TooMany", "bits", 201, 200))
        for value in NO_INTEGERS + [-1, 4, 10 ** 30]:
            self.assertEqual(raised(first, layout, "0" * 200, ((0,),), value), ("BadSize", value))


if __name__ == "__main__":
    unittest.main()
