"""Promises 27 and 28: the same texts, or a least one."""

import random
import time
import unittest

from tests.helpers import raised, random_machine, rows_up_to
from wordvault.alike import Alike, Apart, compared, first_text, least_machine, places_apart
from wordvault.machines import Machine, inverted, product_of


def twice(machine):
    """Each state stands there twice."""
    size = len(machine.rows)
    rows = [(away + size, [(first, last, state + size) for first, last, state in moves]) for away, moves in machine.rows]
    rows += list(machine.rows)
    return Machine(machine.signs, rows, machine.start, list(machine.marks) + [mark + size for mark in machine.marks])


def ring(size, marks=(0,)):
    return Machine(1, [((state + 1) % size, []) for state in range(size)], 0, list(marks))


class AlikeTest(unittest.TestCase):
    def pairs_of(self, rng):
        signs = rng.randint(1, 3)
        one = random_machine(rng, signs, rng.randint(1, 4))
        kind = rng.randrange(4)
        if kind == 0:
            return one, twice(one)
        if kind == 1:
            return one, one.begun_at(rng.randrange(len(one.rows)))
        return one, random_machine(rng, signs, rng.randint(1, 4))

    def test_held_against_short_rows(self):
        rng = random.Random(22)
        for _ in range(200):
            one, other = self.pairs_of(rng)
            rows = list(rows_up_to(one.signs, 16 if one.signs == 1 else 8 if one.signs == 2 else 6))
            texts = [row for row in rows if one.has_text(row)]
            self.assertEqual(first_text(one), texts[0] if texts else None)
            unlike = [row for row in rows if one.has_text(row) != other.has_text(row)]
            told = compared(one, other)
            self.assertEqual((told.one, told.other), (one, other))
            if unlike:
                self.assertIsInstance(told, Apart)
                self.assertEqual(told.row, unlike[0])
            else:
                self.assertIsInstance(told, Alike)
                reached = {(one.state_behind(one.start, row), other.state_behind(other.start, row)) for row in rows}
                self.assertEqual(told.pairs, tuple(sorted(reached)))
            unlike = [row for row in unlike if row]
            self.assertEqual(places_apart(one, other), unlike[0] if unlike else None)

    def test_only_the_empty_row_is_unlike(self):
        one, other = Machine(1, [(1, []), (1, [])], 0, [0]), Machine(1, [(0, [])], 0, [])
        self.assertEqual((compared(one, other).row, places_apart(one, other)), ((), None))
        self.assertEqual(places_apart(ring(3), inverted(ring(3))), (0,))
        self.assertEqual(places_apart(ring(3), ring(3, [])), (0, 0, 0))

    def test_least_machine(self):
        rng = random.Random(23)
        for _ in range(150):
            machine = random_machine(rng, rng.randint(1, 3), rng.randint(1, 5))
            told = least_machine(machine)
            self.assertIsInstance(compared(machine, told), Alike)
            rows = list(rows_up_to(machine.signs, 5))
            ends = {tuple(told.begun_at(state).has_text(row) for row in rows) for state in range(len(told.rows))}
            self.assertEqual(len(ends), len(told.rows))
            least = {}
            for row in rows:
                least.setdefault(told.state_behind(told.start, row), row)
            self.assertEqual(list(least), list(range(len(told.rows))))
            self.assertEqual(least_machine(twice(machine)), told)
            self.assertEqual(least_machine(told), told)

    def test_many_pairs(self):
        began = time.time()
        told = compared(ring(100, [0, 50]), ring(50))
        self.assertEqual(len(told.pairs), 100)
        self.assertEqual(len(compared(ring(125, []), ring(160, [])).pairs), 4000)
        self.assertEqual(len(compared(ring(160, []), ring(375, [])).pairs), 12000)
        self.assertEqual(len(compared(ring(32, []), ring(625, [])).pairs), 20000)
        for call in (compared, places_apart):
            self.assertEqual(raised(call, ring(151, []), ring(133)), ("TooMany", "pairs", 20001, 20000))
            self.assertEqual(raised(call, ring(2), Machine(2, [(0, [])], 0, [])), ("OtherSigns",))
        self.assertEqual(len(least_machine(ring(2000)).rows), 2000)
        self.assertEqual(len(least_machine(ring(2000, range(0, 2000, 8))).rows), 8)
        chain = Machine(2, [(min(state + 1, 1999), [(1, 1, 0)]) for state in range(2000)], 0, [1999])
        self.assertEqual(len(least_machine(chain).rows), 2000)
        self.assertEqual(first_text(chain), (0,) * 1999)
        self.assertLess(time.time() - began, 60)

    def test_products_are_compared(self):
        rng = random.Random(24)
        for _ in range(30):
            one, other = random_machine(rng, 2, 3), random_machine(rng, 2, 3)
            unlike = first_text(product_of(one, other, "unlike"))
            told = compared(one, other)
            self.assertEqual(told.row if isinstance(told, Apart) else None, unlike)

    def test_fields_of_any_kind(self):
        for kind, names in ((Alike, ["one", "other", "pairs"]), (Apart, ["one", "other", "row"])):
            given = [[1, [2, (3, [4])]], {"a": [1]}, None]
            told = kind(*given)
            self.assertEqual(vars(told), dict(zip(names, [(1, (2, (3, (4,)))), {"a": (1,)}, None])))
            given[1]["b"] = 1
            self.assertEqual(getattr(told, names[1]), {"a": (1,)})
            self.assertEqual(vars(kind(True, "x", -7)), dict(zip(names, [True, "x", -7])))
            self.assertNotEqual(told, kind(*given))
