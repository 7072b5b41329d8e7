"""Promise 26: machines in texts by rules."""

import random
import time
import unittest

from tests.helpers import NO_INTEGERS, raised, random_machine, random_text
from tests.test_texts import chain
from wordvault.machines import Machine
from wordvault.names import name_at
from wordvault.runs import Run
from wordvault.texts import Text

GREAT = 10 ** 30


def sevenths(place):
    """How many of 12, 19, 26, .. are less."""
    return max(0, (place - 12 + 6) // 7)


class RunsTest(unittest.TestCase):
    def test_held_against_lists(self):
        rng = random.Random(21)
        for _ in range(200):
            signs = rng.randint(1, 3)
            machine = random_machine(rng, signs, rng.randint(1, 5))
            text, row = random_text(rng, signs, rng.randint(1, 10), 120)
            run = Run(machine, text)
            marked = machine.marked_in(row)
            self.assertEqual((run.many, run.end), (len(marked), machine.state_behind(machine.start, row)))
            self.assertEqual([run.place_at(number) for number in range(run.many)], list(marked))
            for place in range(len(row) + 1):
                self.assertEqual(run.state_at(place), machine.state_behind(machine.start, row[:place]))
                ahead = [one for one in marked if one < place]
                behind = [one for one in marked if one >= place]
                self.assertEqual(run.number_ahead(place), len(ahead))
                self.assertEqual(run.first_from(place), behind[0] if behind else None)
                self.assertEqual(run.last_ahead(place), ahead[-1] if ahead else None)

    def test_attributes_and_errors(self):
        machine, text = Machine(2, [(0, [(1, 1, 1)]), (1, [])], 0, [1]), Text(2, {"A": [(0, 3), (1, 2)]}, "A")
        run = Run(machine, text)
        self.assertEqual((run.machine, run.text, run.many, run.end), (machine, text, 2, 1))
        self.assertEqual(raised(Run, machine, Text(3, {"A": []}, "A")), ("OtherSigns",))
        for value in NO_INTEGERS + [-1, 6, GREAT]:
            for call in (run.state_at, run.number_ahead, run.first_from, run.last_ahead):
                self.assertEqual(raised(call, value), ("BadPlace", value))
        for value in NO_INTEGERS + [-1, 2, GREAT]:
            self.assertEqual(raised(run.place_at, value), ("BadPlace", value))
        self.assertEqual([run.first_from(place) for place in (0, 3, 4, 5)], [3, 3, 4, None])
        self.assertEqual([run.last_ahead(place) for place in (0, 3, 4, 5)], [None, None, 3, 4])

    def test_empty_texts(self):
        run = Run(Machine(1, [(1, []), (1, [])], 0, [0, 1]), Text(1, {"A": [("B", GREAT)], "B": []}, "A"))
        self.assertEqual((run.many, run.end, run.state_at(0), run.number_ahead(0)), (0, 0, 0, 0))
        self.assertEqual((run.first_from(0), run.last_ahead(0)), (None, None))
        self.assertEqual(raised(run.place_at, 0), ("BadPlace", 0))

    def test_great_counts(self):
        # Every seventh place is marked, behind ten that are not.
        rows = [(state + 1, []) for state in range(16)] + [(10, [])]
        machine = Machine(3, rows, 0, [13])
        text = Text(3, {"A": [("B", GREAT), (2, GREAT)], "B": [(0, 2), (1, 3)]}, "A")
        run = Run(machine, text)
        self.assertEqual((text.size, run.many), (6 * GREAT, sevenths(6 * GREAT)))
        self.assertEqual([run.place_at(number) for number in (0, 1, 10 ** 20, run.many - 1)],
                         [12, 19, 12 + 7 * 10 ** 20, 12 + 7 * (run.many - 1)])
        for place in (0, 1, 12, 13, 10 ** 25, 6 * GREAT - 1, 6 * GREAT):
            self.assertEqual(run.number_ahead(place), sevenths(place))
            self.assertEqual(run.state_at(place), place if place < 10 else 10 + (place - 10) % 7)
            self.assertEqual(run.last_ahead(place), None if place < 13 else 5 + 7 * sevenths(place))
        self.assertEqual(run.first_from(run.place_at(run.many - 1)), run.place_at(run.many - 1))

    def test_deep_names(self):
        began = time.time()
        text = chain(2000, GREAT)
        run = Run(Machine(2, [(0, [(1, 1, 1)]), (0, [(1, 1, 1)])], 0, [1]), text)
        self.assertEqual(run.many, text.tally()[1])
        for number in (0, 1, 10 ** 40, run.many // 3, run.many - 1):
            self.assertEqual(run.place_at(number), text.place_of(1, number))
        self.assertEqual(run.number_ahead(text.size // 7), text.ahead(text.size // 7)[1])
        self.assertEqual(run.last_ahead(text.size), text.size - 1)
        self.assertLess(time.time() - began, 60)

    def test_many_states(self):
        # Ones are counted modulo 2,000, and 10 ** 30 copies leave the count as it is: but the 1 behind them.
        began = time.time()
        size = 2000
        machine = Machine(2, [(state, [(1, 1, (state + 1) % size)]) for state in range(size)], 0, [0])
        rules = {name_at(number): [(name_at(number + 1), GREAT), (1, 1)] for number in range(40)}
        rules[name_at(40)] = [(0, 1)]
        text = Text(2, rules, "A")
        run = Run(machine, text)
        ones = text.tally()[1]
        self.assertEqual(run.end, ones % size)
        for place in (10 ** 30, 10 ** 35, text.size // 3):
            self.assertEqual(run.state_at(place), text.ahead(place)[1] % size)
        self.assertEqual(run.place_at(GREAT), run.first_from(text.place_of(1, size - 1)))
        self.assertLess(time.time() - began, 60)
