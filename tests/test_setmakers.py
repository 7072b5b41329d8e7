"""Promise 29: machines of machines."""

import random
import unittest

from tests.helpers import raised, random_machine, rows_up_to
from wordvault.alike import least_machine
from wordvault.machines import Machine
from wordvault.setmakers import any_number, chained, ending_in, turned_machine


def cuts(row):
    return [(row[:at], row[at:]) for at in range(len(row) + 1)]


def is_chain(machine, row):
    ends = {0}
    for end in range(1, len(row) + 1):
        if any(begin in ends and machine.has_text(row[begin:end]) for begin in range(end)):
            ends.add(end)
    return len(row) in ends


class SetmakersTest(unittest.TestCase):
    def check(self, told, rows, wished):
        self.assertEqual([told.has_text(row) for row in rows], wished)
        self.assertEqual(least_machine(told), told)

    def test_held_against_short_rows(self):
        rng = random.Random(25)
        for _ in range(120):
            signs = rng.randint(1, 3)
            one = random_machine(rng, signs, rng.randint(1, 4))
            other = random_machine(rng, signs, rng.randint(1, 4))
            rows = list(rows_up_to(signs, 9 if signs == 1 else 6 if signs == 2 else 4))
            self.check(chained(one, other), rows,
                       [any(one.has_text(head) and other.has_text(rest) for head, rest in cuts(row)) for row in rows])
            self.check(any_number(one), rows, [is_chain(one, row) for row in rows])
            self.check(turned_machine(one), rows, [one.has_text(row[::-1]) for row in rows])
            self.check(ending_in(one), rows, [any(one.has_text(rest) for _, rest in cuts(row)) for row in rows])
            self.assertEqual(any_number(any_number(one)), any_number(one))
            self.assertEqual(turned_machine(turned_machine(one)), least_machine(one))

    def test_no_texts_and_the_empty_text(self):
        none, empty = Machine(2, [(0, [])], 0, []), Machine(2, [(1, []), (1, [])], 0, [0])
        self.assertEqual((any_number(none), any_number(empty)), (empty, empty))
        self.assertEqual((chained(none, empty), chained(empty, none), chained(empty, empty)), (none, none, empty))
        self.assertEqual((turned_machine(none), turned_machine(empty)), (none, empty))
        self.assertEqual(ending_in(none), none)
        self.assertEqual(ending_in(empty), Machine(2, [(0, [])], 0, [0]))
        self.assertEqual(raised(chained, none, Machine(3, [(0, [])], 0, [])), ("OtherSigns",))

    def test_many_sets(self):
        # The tenth sign from the end is a 1: the sets are as many as the rows of ten signs.
        tenth = Machine(2, [(11, [(1, 1, 1)])] + [(state + 1, []) for state in range(1, 10)] + [(11, []), (11, [])], 0, [10])
        told = ending_in(tenth)
        self.assertEqual(len(told.rows), 1024)
        self.assertEqual(turned_machine(told), turned_machine(ending_in(tenth)))
        every = Machine(2, [(0, [])], 0, [0])
        self.assertEqual(chained(every, tenth), told)
        twelfth = Machine(2, [(13, [(1, 1, 1)])] + [(state + 1, []) for state in range(1, 12)] + [(13, []), (13, [])], 0,
                          [12])
        self.assertEqual(raised(ending_in, twelfth), ("TooMany", "sets", 2001, 2000))

    def test_great_signs(self):
        one = Machine(2000, [(1, [(7, 9, 2), (1999, 1999, 0)]), (1, []), (2, [(0, 5, 0)])], 0, [2])
        self.assertTrue(chained(one, one).has_text([1999, 8, 6, 1999, 9]))
        self.assertFalse(chained(one, one).has_text([1999, 10]))
        self.assertTrue(turned_machine(one).has_text([8, 1999]))
        self.assertTrue(ending_in(one).has_text([10, 10, 8]))
        self.assertTrue(any_number(one).has_text([]))
