"""Promises 10, 58 and 59: texts laid in blocks, and kinds of damage."""

import itertools
import random
import unittest

from tests.coders import comb, random_code, read_plainly
from tests.helpers import NO_INTEGERS, raised
from tests.test_guards import random_guard, sum_told
from wordvault.codes import Code
from wordvault.damages import Burst, Damage, Faded, Turned
from wordvault.guards import Guard
from wordvault.layouts import Layout, bits_turned, hurt_signs, noticed_at

PARITY = Guard(2, [[1]], [[1]], [0], [0])


def sums_told(layout, bits):
    blocks = [bits]
    if layout.block is not None:
        blocks = [bits[first:first + layout.block] for first in range(0, len(bits), layout.block)]
    return tuple(sum_told(layout.guard, [(int(bit),) for bit in block]) for block in blocks)


def turned_told(bits, places):
    return "".join(("10"[int(bit)] if place in places else bit) for place, bit in enumerate(bits))


def notice_told(layout, bits, places):
    damaged = turned_told(bits, places)
    for index, (one, other) in enumerate(zip(sums_told(layout, bits), sums_told(layout, damaged))):
        if one != other:
            return ("block", index)
    node = read_plainly(layout.code, "", damaged)[1]
    return ("end", node) if node else None


def hurt_told(layout, bits, places):
    damaged = turned_told(bits, places)
    hurt, first = [], 0
    for index, (_, end) in enumerate(read_plainly(layout.code, "", bits)[0]):
        if any(first <= place < end for place in places) or read_plainly(layout.code, "", damaged[:first])[1]:
            hurt.append(index)
        first = end
    return tuple(hurt)


class LayoutsTest(unittest.TestCase):
    def some(self, seed, many):
        rng = random.Random(seed)
        for _ in range(many):
            code = random_code(rng, rng.randint(2, 5))
            yield rng, Layout(code, random_guard(rng, width=1), rng.choice([None, 1, 2, 3, 5, 1000]))

    def test_texts(self):
        for rng, layout in self.some(141, 100):
            signs = [rng.randrange(layout.code.size) for _ in range(rng.randint(0, 12))]
            bits = "".join(layout.code.words[sign] for sign in signs)
            self.assertEqual(layout.bits_of(signs), bits)
            self.assertEqual(layout.bits_of(tuple(signs)), bits)
            self.assertEqual(layout.sums_of(bits), sums_told(layout, bits))
            self.assertEqual(layout.read_all(bits), (tuple(signs), ""))
            for size in range(len(bits)):
                told, node = read_plainly(layout.code, "", bits[:size])
                self.assertEqual(layout.read_all(bits[:size]), (tuple(sign for sign, _ in told), node))

    def test_damage_held_against_a_plain_reckoning(self):
        kinds = {}
        for rng, layout in self.some(142, 300):
            bits = "".join(rng.choice("01") for _ in range(rng.randint(0, 12)))
            if rng.random() < 0.5:
                bits = "".join(rng.choice(layout.code.words) for _ in range(4))
            places = sorted(rng.sample(range(len(bits)), min(len(bits), rng.randint(0, 4))))
            self.assertEqual(bits_turned(bits, places), turned_told(bits, places))
            self.assertEqual(noticed_at(layout, bits, places), notice_told(layout, bits, places))
            self.assertEqual(hurt_signs(layout, bits, tuple(places)), hurt_told(layout, bits, places))
            kinds[(notice_told(layout, bits, places) or (None,))[0]] = True
        self.assertEqual(len(kinds), 3)

    def test_no_bits(self):
        code = Code([1, 2, 2])
        guard = Guard(5, [[2]], [[1]], [3], [4])
        self.assertEqual(Layout(code, guard, None).sums_of(""), ((2,),))
        self.assertEqual(Layout(code, guard, 7).sums_of(""), ())
        self.assertEqual(Layout(code, guard, None).bits_of([]), "")
        self.assertEqual(Layout(code, guard, None).read_all(""), ((), ""))
        self.assertIsNone(noticed_at(Layout(code, guard, 1), "", []))
        self.assertEqual(hurt_signs(Layout(code, guard, 1), "", []), ())
        # Nothing is turned, but the bits are those of no text.
        self.assertEqual(noticed_at(Layout(code, guard, 1), "1", []), ("end", "1"))

    def test_errors_in_order(self):
        code = Code([1, 2, 2])
        wide = Guard(2, [[1]], [[1, 0]], [0], [0])
        self.assertEqual(raised(Layout, code, wide, "x"), ("BadWidth", 2))
        for value in NO_INTEGERS + [0, -1, 1001]:
            if value is not None:
                self.assertEqual(raised(Layout, code, PARITY, value), ("BadBlock", value))
        layout = Layout(code, PARITY, 1000)
        self.assertEqual((layout.code, layout.guard, layout.block), (code, PARITY, 1000))
        for value in NO_INTEGERS + [-1, 3]:
            self.assertEqual(raised(layout.bits_of, [0, value] + [0] * 2000), ("BadSign", 1))
        self.assertEqual(layout.bits_of([1] * 2000), "10" * 2000)
        self.assertEqual(raised(layout.bits_of, [1] * 2001), ("TooMany", "signs", 2001, 2000))
        calls = [layout.sums_of, layout.read_all, lambda bits: bits_turned(bits, ["x"]),
                 lambda bits: noticed_at(layout, bits, ["x"]), lambda bits: hurt_signs(layout, bits, ["x"])]
        for call in calls:
            for value, index in [(None, 0), (7, 0), (["0"], 0), (("0",), 0), ({}, 0), (True, 0), ("2", 0), ("01 0", 2),
                                 ("0" * 10000 + "x", 10000)]:
                self.assertEqual(raised(call, value), ("BadBits", index))
            self.assertEqual(raised(call, "0" * 10001), ("TooMany", "bits", 10001, 10000))
        self.assertEqual(layout.read_all("0" * 10000), ((0,) * 10000, ""))
        calls = [lambda places: bits_turned("0110", places), lambda places: noticed_at(layout, "0110", places),
                 lambda places: hurt_signs(layout, "0110", places)]
        for call in calls:
            for value in NO_INTEGERS + [-1, 0, 1, 4]:
                self.assertEqual(raised(call, [1, value, "x"]), ("BadTurns", 1))
            self.assertEqual(raised(call, [4]), ("BadTurns", 0))
            self.assertIsNone(raised(call, (0, 1, 2, 3)))
        self.assertEqual(raised(bits_turned, "", [0]), ("BadTurns", 0))

    def test_longest_words(self):
        layout = Layout(comb(2000), PARITY, None)
        bits = layout.bits_of([1999, 0, 1998])
        self.assertEqual(hurt_signs(layout, bits, [0]), (0, 1))
        self.assertEqual(hurt_signs(layout, bits, [1999]), (1, 2))


class DamagesTest(unittest.TestCase):
    def test_kinds(self):
        self.assertTrue(issubclass(Turned, Damage) and issubclass(Faded, Turned) and issubclass(Burst, Damage))
        self.assertFalse(issubclass(Burst, Turned))
        self.assertEqual((Turned(3).most, Turned(3).first_left, Faded(64).most, Burst(5).size, Burst(64).first_left),
                         (3, 3, 64, 5, 64))
        for value in NO_INTEGERS + [0, -1, 65]:
            for kind in (Turned, Faded, Burst):
                self.assertEqual(raised(kind, value), ("BadSize", value))
        for kind in (Turned, Faded, Burst):
            self.assertIn("is_of", vars(kind))

    def test_is_of_over_all_places(self):
        for size in range(5):
            for row in itertools.product("01", repeat=size):
                bits = "".join(row)
                for many in range(size + 1):
                    for places in itertools.combinations(range(size), many):
                        for most in range(1, 6):
                            few = 1 <= many <= most
                            self.assertIs(Turned(most).is_of(bits, list(places)), few)
                            self.assertIs(Faded(most).is_of(bits, places), few and all(bits[place] == "1" for place in places))
                            near = many > 0 and max(places) - min(places) < most
                            self.assertIs(Burst(most).is_of(bits, list(places)), near)

    def test_what_is_left_tells_just_the_same(self):
        for damage in [Turned(1), Turned(2), Turned(64), Faded(1), Faded(3), Burst(1), Burst(2), Burst(3), Burst(64)]:
            for size in range(6):
                for row in itertools.product("01", repeat=size):
                    for turned in itertools.product((False, True), repeat=size):
                        left, may_be = damage.first_left, True
                        for bit, is_turned in zip(row, turned):
                            may_be = may_be and (not is_turned or damage.may_turn(left, bit))
                            left = damage.left_behind(left, is_turned)
                        places = [place for place in range(size) if turned[place]]
                        self.assertIs(damage.is_of("".join(row), places), may_be and left < damage.first_left)


if __name__ == "__main__":
    unittest.main()
