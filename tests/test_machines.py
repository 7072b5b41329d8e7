"""Promises 24 and 25: machines over signs."""

import itertools
import random
import time
import unittest

from tests.helpers import NO_INTEGERS, raised, random_machine, rows_up_to
from wordvault.machines import Machine, inverted, product_of, read_as

HOWS = {"both": lambda one, other: one and other, "either": lambda one, other: one or other,
        "first": lambda one, other: one and not other, "unlike": lambda one, other: one != other}


def target(rows, state, sign):
    away, moves = rows[state]
    for first, last, behind in moves:
        if first <= sign <= last:
            return behind
    return away


class MachinesTest(unittest.TestCase):
    def test_one_form(self):
        rng = random.Random(17)
        for _ in range(200):
            signs, states = rng.randint(1, 7), rng.randint(1, 4)
            told = []
            for _ in range(states):
                moves, least = [], 0
                while least < signs:
                    first = rng.randint(least, signs - 1)
                    last = rng.randint(first, signs - 1)
                    moves.append((first, last, rng.randrange(states)))
                    least = last + 1
                told.append((rng.randrange(states), moves))
            machine = Machine(signs, told, 0, [])
            for state, (away, moves) in enumerate(machine.rows):
                leads = [target(told, state, sign) for sign in range(signs)]
                most = max(leads.count(one) for one in leads)
                self.assertEqual(away, min(one for one in leads if leads.count(one) == most))
                runs = [(one, [sign for sign, _ in group])
                        for one, group in itertools.groupby(enumerate(leads), key=lambda pair: pair[1])]
                self.assertEqual(moves, tuple((run[0], run[-1], one) for one, run in runs if one != away))

    def test_moves_that_touch_and_lead_away(self):
        machine = Machine(6, [(0, [(0, 1, 1), (2, 2, 1), (4, 4, 0)]), (1, [(0, 2, 0), (3, 5, 1)])], 0, [1])
        self.assertEqual(machine.rows, ((0, ((0, 2, 1),)), (0, ((3, 5, 1),))))
        again = Machine(6, [(1, [(3, 5, 0)]), (1, [(0, 0, 0), (1, 2, 0)])], 0, (1,))
        self.assertEqual(machine, again)
        self.assertNotEqual(machine, machine.begun_at(1))
        self.assertNotEqual(machine, inverted(machine))
        self.assertFalse(machine == machine.rows)

    def test_what_is_handed_in_may_change(self):
        moves, marks = [(0, 0, 0)], [0]
        rows = [(1, moves), (1, [])]
        machine = Machine(2, rows, 0, marks)
        moves.append(7)
        rows.append(7)
        marks.append(1)
        self.assertEqual((machine.rows, machine.marks), (((0, ((1, 1, 1),)), (1, ())), (0,)))

    def test_errors_in_order(self):
        for value in NO_INTEGERS + [0, 2001]:
            self.assertEqual(raised(Machine, value, [], None, [7]), ("BadSigns", value))
        self.assertEqual(raised(Machine, 2, [], None, [7]), ("TooMany", "states", 0, 2000))
        self.assertEqual(raised(Machine, 2, [7] * 2001, None, [7]), ("TooMany", "states", 2001, 2000))
        rows = NO_INTEGERS + [0, (0,), [0, []], (0, [], []), (2, []), (-1, []), (True, []), (None, []), (0, None), (0, 7),
                              (0, {}), (0, [7]), (0, [(0, 0)]), (0, [[0, 0, 0]]), (0, [(0, 0, 2)]), (0, [(0, 2, 0)]),
                              (0, [(-1, 0, 0)]), (0, [(1, 0, 0)]), (0, [(0, 0, 0), (0, 1, 0)]), (0, [(1, 1, 0), (0, 0, 0)]),
                              (0, [(0, True, 0)]), (0, [(0, 0, None)]), (0, [("0", 0, 0)])]
        for row in rows:
            self.assertEqual(raised(Machine, 2, [(0, []), row], None, [7]), ("BadRow", 1))
        for value in NO_INTEGERS + [-1, 2]:
            self.assertEqual(raised(Machine, 2, [(0, []), (0, [])], value, [7]), ("BadStart", value))
        for value in NO_INTEGERS + [-1, 3, 0, 1]:
            self.assertEqual(raised(Machine, 2, [(0, [])] * 3, 0, [1, value, 7]), ("BadMark", 1))

    def test_reading(self):
        rng = random.Random(18)
        for _ in range(60):
            machine = random_machine(rng, rng.randint(1, 4), rng.randint(1, 4))
            for row in rows_up_to(machine.signs, 3):
                states = [machine.start]
                for sign in row:
                    states.append(target(machine.rows, states[-1], sign))
                marked = tuple(place for place, state in enumerate(states[1:]) if state in machine.marks)
                self.assertEqual(machine.marked_in(list(row)), marked)
                self.assertEqual(machine.has_text(row), states[-1] in machine.marks)
                self.assertEqual(machine.state_behind(machine.start, row), states[-1])
            begun = machine.begun_at(0)
            self.assertEqual((begun.signs, begun.rows, begun.start, begun.marks),
                             (machine.signs, machine.rows, 0, machine.marks))
        for value in NO_INTEGERS + [-1, len(machine.rows)]:
            self.assertEqual(raised(machine.state_behind, value, ["x"]), ("BadState", value))
            self.assertEqual(raised(machine.begun_at, value), ("BadState", value))
        for value in NO_INTEGERS + [-1, machine.signs]:
            for call in (machine.has_text, machine.marked_in, lambda row: machine.state_behind(0, row)):
                self.assertEqual(raised(call, [0, value, "x"]), ("BadSign", 1))

    def test_inverted(self):
        machine = Machine(2, [(0, [(1, 1, 1)]), (1, []), (2, [])], 1, [0, 2])
        told = inverted(machine)
        self.assertEqual((told.rows, told.start, told.marks), (machine.rows, 1, (1,)))
        self.assertEqual(inverted(told), machine)

    def test_products(self):
        rng = random.Random(19)
        for _ in range(60):
            signs = rng.randint(1, 4)
            one, other = random_machine(rng, signs, rng.randint(1, 4)), random_machine(rng, signs, rng.randint(1, 4))
            for how, told in HOWS.items():
                machine = product_of(one, other, how)
                least = {}
                for row in rows_up_to(signs, 4):
                    self.assertEqual(machine.has_text(row), told(one.has_text(row), other.has_text(row)))
                    pair = (one.state_behind(one.start, row), other.state_behind(other.start, row))
                    least.setdefault(pair, row)
                for number, row in enumerate(least.values()):
                    self.assertEqual(machine.state_behind(machine.start, row), number)
                self.assertGreaterEqual(len(machine.rows), len(least))
                self.assertEqual(machine.start, 0)

    def test_errors_of_products(self):
        one, other = Machine(2, [(0, [])], 0, []), Machine(3, [(0, [])], 0, [])
        self.assertEqual(raised(product_of, one, other, "neither"), ("OtherSigns",))
        for value in NO_INTEGERS + [0, "Both", "", ["both"]]:
            self.assertEqual(raised(product_of, one, one, value), ("BadHow", value))

    def test_many_pairs(self):
        def ring(size):
            return Machine(2, [((state + 1) % size, []) for state in range(size)], 0, [0])
        self.assertEqual(len(product_of(ring(40), ring(49), "both").rows), 1960)
        self.assertEqual(product_of(ring(40), ring(50), "both").marks, (0,))
        self.assertEqual(len(product_of(ring(16), ring(125), "either").rows), 2000)
        self.assertEqual(raised(product_of, ring(40), ring(51), "both"), ("TooMany", "states", 2001, 2000))
        self.assertEqual(raised(product_of, ring(40), ring(51), "x"), ("BadHow", "x"))

    def test_read_as(self):
        rng = random.Random(20)
        for _ in range(80):
            machine = random_machine(rng, rng.randint(1, 3), rng.randint(1, 4))
            readings = [[rng.randrange(machine.signs) for _ in range(rng.choice([0, 1, 2, 3]))]
                        for _ in range(rng.randint(1, 4))]
            told = read_as(machine, readings)
            self.assertEqual((told.signs, told.start, told.marks), (len(readings), machine.start, machine.marks))
            for row in rows_up_to(len(readings), 3):
                read = [sign for one in row for sign in readings[one]]
                for state in range(len(machine.rows)):
                    self.assertEqual(told.state_behind(state, row), machine.state_behind(state, read))

    def test_errors_of_read_as(self):
        machine = Machine(2, [(0, [])], 0, [])
        self.assertEqual(raised(read_as, machine, []), ("TooMany", "signs", 0, 2000))
        self.assertEqual(raised(read_as, machine, [7] * 2001), ("TooMany", "signs", 2001, 2000))
        for value in [None, True, 0, "", "01", {}, [2], [0, -1], [True], [None], [[0]]]:
            self.assertEqual(raised(read_as, machine, [[0, 1], value, 7]), ("BadReading", 1))
        self.assertEqual(read_as(machine, [[]] * 2000).rows, ((0, ()),))

    def test_great_machines(self):
        began = time.time()
        size = 2000
        rows = [((state + 1) % size, [(0, state, 0)]) for state in range(size)]
        machine = Machine(size, rows, 0, list(range(0, size, 2)))
        self.assertEqual(machine.state_behind(0, [1999] * 1500), 1500)
        self.assertEqual(machine.state_behind(0, [1999] * 1500 + [7]), 0)
        self.assertEqual(len(inverted(machine).marks), 1000)
        told = read_as(machine, [[sign, 1999] for sign in range(size)])
        self.assertEqual(told.state_behind(5, [3]), 1)
        self.assertLess(time.time() - began, 60)
