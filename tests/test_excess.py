"""Promise 30: how many places more, over all texts of a rule."""

import random
import unittest

from tests.helpers import raised, random_machine, rows_up_to
from wordvault.excess import Endless, Most, excess
from wordvault.machines import Machine, inverted


def gain(one, other, row):
    return len(one.marked_in(row)) - len(other.marked_in(row))


class ExcessTest(unittest.TestCase):
    def check_most(self, told, one, other, rule, rows):
        texts = [row for row in rows if rule.has_text(row)]
        self.assertEqual(told.number, max(gain(one, other, row) for row in texts))
        self.assertTrue(rule.has_text(told.row) and len(told.row) <= 2000)
        self.assertEqual(gain(one, other, told.row), told.number)
        triples = {tuple(each.state_behind(each.start, row) for each in (rule, one, other)) for row in rows}
        self.assertEqual([triple for triple, _ in told.heights], sorted(triples))
        for (of_rule, of_one, of_other), height in told.heights:
            begun = [machine.begun_at(state) for machine, state in ((rule, of_rule), (one, of_one), (other, of_other))]
            gains = [gain(begun[1], begun[2], row) for row in rows if begun[0].has_text(row)]
            self.assertEqual(height, max(gains) if gains else None)

    def check_endless(self, told, one, other, rule):
        front, ring, back = told.front, told.ring, told.back
        self.assertLessEqual(max(len(front), len(ring), len(back)), 2000)
        for machine in (one, other, rule):
            state = machine.state_behind(machine.start, front)
            self.assertEqual(machine.state_behind(state, ring), state)
        self.assertTrue(rule.has_text(front + back))
        begun = [machine.begun_at(machine.state_behind(machine.start, front)) for machine in (one, other)]
        self.assertGreater(gain(begun[0], begun[1], ring), 0)

    def test_held_against_short_rows(self):
        rng = random.Random(26)
        kinds = {Most: 0, Endless: 0, type(None): 0}
        for _ in range(250):
            signs = rng.randint(1, 2)
            one, other, rule = [random_machine(rng, signs, rng.randint(1, 2)) for _ in range(3)]
            rows = list(rows_up_to(signs, 20 if signs == 1 else 9))
            told = excess(one, other, rule)
            kinds[type(told)] += 1
            if told is None:
                self.assertFalse(any(rule.has_text(row) for row in rows))
                continue
            self.assertEqual((told.one, told.other, told.rule), (one, other, rule))
            if isinstance(told, Most):
                self.check_most(told, one, other, rule, rows)
            else:
                self.check_endless(told, one, other, rule)
        self.assertGreater(min(kinds.values()), 10)

    def test_heights_that_are_none(self):
        ones = Machine(2, [(0, [(1, 1, 1)]), (0, [(1, 1, 1)])], 0, [1])
        none = Machine(2, [(0, [])], 0, [])
        rule = Machine(2, [(1, [(1, 1, 0)]), (1, [])], 0, [0])
        self.assertIsInstance(excess(ones, none, rule), Endless)
        told = excess(none, ones, rule)
        self.assertEqual((told.number, told.row, told.heights),
                         (0, (), (((0, 0, 0), 0), ((0, 0, 1), 0), ((1, 0, 0), None), ((1, 0, 1), None))))
        self.assertEqual(excess(none, none, inverted(rule)).heights, (((0, 0, 0), 0), ((1, 0, 0), 0)))

    def test_rings_that_gain_only_in_all(self):
        # In a ring of five, one marks three places and the other one two; a way out loses.
        one = Machine(1, [((state + 1) % 5, []) for state in range(5)], 0, [0, 1, 2])
        other = Machine(1, [((state + 1) % 5, []) for state in range(5)], 0, [3, 4])
        rule = Machine(1, [(0, [])], 0, [0])
        self.check_endless(excess(one, other, rule), one, other, rule)
        told = excess(other, one, rule)
        self.assertEqual((told.number, told.row), (0, ()))
        even = Machine(1, [(1, []), (0, [])], 0, [0])
        told = excess(even, inverted(even), rule)
        self.assertEqual((told.number, told.heights), (0, (((0, 0, 0), 0), ((0, 1, 1), 1))))

    def test_errors_and_bounds(self):
        def ring(size):
            return Machine(2, [((state + 1) % size, []) for state in range(size)], 0, [0])
        every = Machine(2, [(0, [])], 0, [0])
        self.assertEqual(raised(excess, ring(2), ring(3), Machine(3, [(0, [])], 0, [])), ("OtherSigns",))
        self.assertEqual(raised(excess, ring(2), Machine(3, [(0, [])], 0, []), every), ("OtherSigns",))
        told = excess(ring(24), ring(25), every)
        self.check_endless(told, ring(24), ring(25), every)
        self.assertEqual(raised(excess, ring(25), ring(26), every), ("TooMany", "triples", 601, 600))
        none = Machine(2, [(0, [])], 0, [])
        self.assertEqual(raised(excess, ring(25), ring(26), none), ("TooMany", "triples", 601, 600))
        self.assertIsNone(excess(ring(24), ring(25), none))
        told = excess(ring(600), every, every)
        self.assertEqual((told.number, len(told.heights)), (0, 600))

    def test_fields_of_any_kind(self):
        names = ["one", "other", "rule", "number", "row", "heights"]
        given = [[1, [2]], {"a": [1]}, None, "x", ([1],), []]
        wished = [(1, (2,)), {"a": (1,)}, None, "x", ((1,),), ()]
        self.assertEqual(vars(Most(*given)), dict(zip(names, wished)))
        self.assertEqual(vars(Endless(*given)), dict(zip(names[:3] + ["front", "ring", "back"], wished)))
