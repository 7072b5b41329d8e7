"""Promise 31: most marked places in texts of one size."""

import random
import time
import unittest

from tests.helpers import NO_INTEGERS, raised, random_machine, rows_up_to
from wordvault.busiest import Busiest, busiest
from wordvault.machines import Machine
from wordvault.runs import Run
from wordvault.texts import Text

GREAT = 10 ** 30


def text_of(told, signs):
    """The text that is told, by rules."""
    def pairs(row):
        return [(sign, 1) for sign in row]
    rules = {"A": [("F", 1), ("R", told.rounds), ("B", 1)] if told.rounds else [("F", 1), ("B", 1)]}
    for name, row in (("F", told.front), ("R", told.ring), ("B", told.back)):
        groups = [row[at:at + 40] for at in range(0, len(row), 40)]
        rules[name] = [(name + "ABCDEFGHIJKLMNOPQRSTUVWXYZ"[at], 1) for at in range(len(groups))]
        for at, group in enumerate(groups):
            rules[name + "ABCDEFGHIJKLMNOPQRSTUVWXYZ"[at]] = pairs(group)
    return Text(signs, rules, "A")


class BusiestTest(unittest.TestCase):
    def check(self, told, machine, rule, size, many):
        self.assertIsInstance(told, Busiest)
        self.assertEqual((told.machine, told.rule, told.size, told.many), (machine, rule, size, many))
        self.assertLessEqual(len(told.front) + len(told.back), 512)
        self.assertLessEqual(len(told.ring), 16)
        self.assertGreaterEqual(told.rounds, 0)
        text = text_of(told, machine.signs)
        self.assertEqual(text.size, size)
        self.assertEqual(Run(machine, text).many, many)
        self.assertIn(Run(rule, text).end, rule.marks)

    def best_by_layers(self, machine, rule, size):
        """The most marked places, place by place."""
        layer = {(machine.start, rule.start): 0}
        leads = [[[each.state_behind(state, [sign]) for sign in range(each.signs)] for state in range(len(each.rows))]
                 for each in (machine, rule)]
        for _ in range(size):
            behind = {}
            for (state, of_rule), many in layer.items():
                for sign in range(machine.signs):
                    pair = (leads[0][state][sign], leads[1][of_rule][sign])
                    more = many + (pair[0] in machine.marks)
                    behind[pair] = max(more, behind.get(pair, 0))
            layer = behind
        return max([many for (_, of_rule), many in layer.items() if of_rule in rule.marks], default=None)

    def test_held_against_all_rows(self):
        rng = random.Random(27)
        for _ in range(80):
            signs = rng.randint(1, 2)
            machine, rule = random_machine(rng, signs, rng.randint(1, 3)), random_machine(rng, signs, rng.randint(1, 3))
            for size in range(9):
                many = [len(machine.marked_in(row)) for row in rows_up_to(signs, size)
                        if len(row) == size and rule.has_text(row)]
                told = busiest(machine, rule, size)
                if many:
                    self.check(told, machine, rule, size, max(many))
                else:
                    self.assertIsNone(told)

    def test_greater_sizes(self):
        rng = random.Random(28)
        for _ in range(25):
            machine, rule = random_machine(rng, 2, rng.randint(1, 4)), random_machine(rng, 2, rng.randint(1, 4))
            for size in (rng.randint(30, 90), rng.randint(90, 200), 600):
                many = self.best_by_layers(machine, rule, size)
                told = busiest(machine, rule, size)
                if many is None:
                    self.assertIsNone(told)
                else:
                    self.check(told, machine, rule, size, many)

    def test_great_sizes(self):
        # Texts with sign 1 at each third place at most; begins with five 0.
        rule = Machine(2, [(1, [(1, 1, 7)]), (2, [(1, 1, 7)]), (3, [(1, 1, 7)]), (4, [(1, 1, 7)]), (4, [(1, 1, 5)]),
                           (6, [(1, 1, 7)]), (4, [(1, 1, 7)]), (7, [])], 0, [4, 5, 6])
        ones = Machine(2, [(0, [(1, 1, 1)]), (0, [(1, 1, 1)])], 0, [1])
        for size in (GREAT, GREAT - 1, GREAT - 2):
            self.check(busiest(ones, rule, size), ones, rule, size, (size - 4 + 2) // 3)
        self.assertIsNone(busiest(ones, rule, 3))
        even = Machine(2, [(1, []), (0, [])], 0, [0])
        self.assertIsNone(busiest(ones, even, GREAT - 1))
        self.check(busiest(ones, even, GREAT), ones, even, GREAT, GREAT)
        self.check(busiest(ones, even, 0), ones, even, 0, 0)

    def test_front_and_back_count(self):
        # 0 leads straight to the ring, 1 over five marked states; from the ring 1 leads over four marked ones to the end.
        rows = [(6, [(1, 1, 1)])] + [(state + 1, []) for state in range(1, 6)] + [(6, [(1, 1, 7)])]
        rows += [(8, []), (9, []), (10, []), (11, []), (11, [])]
        machine, rule = Machine(2, rows, 0, [1, 2, 3, 4, 5, 7, 8, 9, 10]), Machine(2, rows, 0, [10])
        for size in (250, 601, GREAT):
            self.check(busiest(machine, rule, size), machine, rule, size, 9)
        quiet = Machine(2, rows, 0, [1, 2, 3, 6])
        for size in (300, GREAT):
            # Straight to the ring: two places more in it than over the five states.
            self.check(busiest(quiet, rule, size), quiet, rule, size, size - 4)

    def test_longer_backs_that_mark_more(self):
        # 0: to the ring (3, 4) at once, or by 1 and 2. From the ring 1 leads to the end 5; 2 to the end 8 by marked states.
        rows = [(3, [(1, 1, 1)]), (2, []), (3, []), (4, [(1, 1, 5), (2, 2, 6)]), (3, []), (9, []), (7, []), (8, []),
                (9, []), (9, [])]
        machine, rule = Machine(3, rows, 0, [6, 7]), Machine(3, rows, 0, [5, 8])
        for size in (202, 700, GREAT):
            self.check(busiest(machine, rule, size), machine, rule, size, 2)
            self.assertIsNone(busiest(machine, rule, size - 1))
        late = Machine(3, rows, 0, [1, 5])
        self.check(busiest(late, rule, GREAT), late, rule, GREAT, 2)

    def test_rings_that_must_come_so_often(self):
        # From state 0 a ring of seven marked places, and one of eight that are not: the second as seldom as may be.
        rows = [(1, [(1, 1, 7)])] + [(state + 1, []) for state in range(1, 6)] + [(0, [])]
        rows += [(state + 1, []) for state in range(7, 13)] + [(0, [])]
        machine = Machine(2, rows, 0, [1, 2, 3, 4, 5, 6])
        rule = Machine(2, rows, 0, [0])
        for size in list(range(450, 458)) + list(range(GREAT - 7, GREAT + 1)):
            seldom = size % 7
            self.check(busiest(machine, rule, size), machine, rule, size, (size - 8 * seldom) // 7 * 6)

    def test_sixteen_pairs(self):
        def ring(size, marks):
            return Machine(2, [((state + 1) % size, []) for state in range(size)], 0, marks)
        began = time.time()
        self.check(busiest(ring(16, [0, 3, 4]), ring(1, [0]), GREAT), ring(16, [0, 3, 4]), ring(1, [0]), GREAT,
                   GREAT // 16 * 3)
        dense = Machine(16, [(state, [(sign, sign, (state * 7 + sign * sign) % 16) for sign in range(16)])
                             for state in range(16)], 0, [5, 11])
        told = busiest(dense, Machine(16, [(0, [])], 0, [0]), GREAT)
        self.check(told, dense, told.rule, GREAT, told.many)
        self.assertLess(time.time() - began, 60)
        self.assertEqual(raised(busiest, ring(17, [0]), ring(1, [0]), GREAT), ("TooMany", "pairs", 17, 16))
        self.assertEqual(raised(busiest, ring(17, [0]), ring(1, []), 0), ("TooMany", "pairs", 17, 16))

    def test_errors(self):
        every, three = Machine(2, [(0, [])], 0, [0]), Machine(3, [(0, [])], 0, [0])
        self.assertEqual(raised(busiest, every, three, "x"), ("OtherSigns",))
        for value in NO_INTEGERS + [-1, GREAT + 1]:
            self.assertEqual(raised(busiest, every, every, value), ("BadSize", value))
            self.assertEqual(raised(busiest, Machine(2, [((state + 1) % 17, []) for state in range(17)], 0, []), every,
                                    value), ("BadSize", value))

    def test_fields_of_any_kind(self):
        names = ["machine", "rule", "size", "many", "front", "ring", "rounds", "back"]
        given = [[1, [2]], {"a": [1]}, None, "x", ([1],), [], True, [{"b": [[]]}]]
        wished = [(1, (2,)), {"a": (1,)}, None, "x", ((1,),), (), True, ({"b": ((),)},)]
        self.assertEqual(vars(Busiest(*given)), dict(zip(names, wished)))
