"""Promise 32: edits that a machine does not see."""

import random
import unittest

from tests.helpers import NO_INTEGERS, raised, random_machine, rows_up_to
from wordvault.blindedits import seen_at
from wordvault.machines import Machine


class BlindEditsTest(unittest.TestCase):
    def test_held_against_short_fronts_and_backs(self):
        rng = random.Random(29)
        blind = 0
        for _ in range(200):
            signs = rng.randint(1, 3)
            machine = random_machine(rng, signs, rng.randint(1, 4))
            left, right = [tuple(rng.randrange(signs) for _ in range(rng.randint(0, 4))) for _ in range(2)]
            rows = list(rows_up_to(signs, 12 if signs == 1 else 6 if signs == 2 else 4))
            texts = [[machine.state_behind(state, row) in machine.marks for row in rows]
                     for state in range(len(machine.rows))]
            wished = None
            for front in rows:
                ends = [machine.state_behind(machine.start, front + amid) for amid in (left, right)]
                backs = [back for at, back in enumerate(rows) if texts[ends[0]][at] != texts[ends[1]][at]]
                if backs:
                    wished = (front, backs[0])
                    break
            self.assertEqual(seen_at(machine, list(left), right), wished)
            blind += wished is None
        self.assertGreater(blind, 20)

    def test_rows_that_are_alike(self):
        machine = Machine(2, [(0, [(1, 1, 1)]), (1, [(1, 1, 0)])], 0, [1])
        self.assertIsNone(seen_at(machine, [1, 0, 1], [1, 0, 1]))
        self.assertIsNone(seen_at(machine, [], []))
        self.assertIsNone(seen_at(machine, [1] * 100, (0,)))
        self.assertEqual(seen_at(machine, [1] * 101, []), ((), ()))

    def test_states_that_are_not_reached_do_not_count(self):
        machine = Machine(1, [(0, []), (0, [])], 0, [0])
        self.assertIsNone(seen_at(machine, [0], []))
        self.assertEqual(seen_at(machine.begun_at(1), [0], []), ((), ()))

    def test_long_backs(self):
        size = 60
        rows = [(min(state + 1, size - 1), [(1, 1, 0)]) for state in range(size)]
        machine = Machine(2, rows, 0, [size - 1])
        self.assertEqual(seen_at(machine, [0], []), ((), (0,) * (size - 2)))
        self.assertEqual(seen_at(machine, [1], [0, 1]), None)

    def test_errors(self):
        machine = Machine(2, [(0, [])], 0, [])
        for value in NO_INTEGERS + [-1, 2]:
            self.assertEqual(raised(seen_at, machine, [0, value, "x"], ["x"]), ("BadSign", 1))
            self.assertEqual(raised(seen_at, machine, [0], [0, 1, value, 2]), ("BadSign", 2))
