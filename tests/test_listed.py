"""Promise 23: rules for a list."""

import random
import unittest

from tests.helpers import NO_INTEGERS, listed, raised
from wordvault.listed import told_by_rules
from wordvault.texts import Text


def names():
    letters = "ABCDEFGHIJKLMNOPQRSTUVWXYZ"
    told = list(letters)
    for name in told:
        yield name
        if len(name) < 4:
            told.extend(name + letter for letter in letters)


def names_in_order():
    by_size = sorted([name for name, _ in zip(names(), range(20000))], key=lambda name: (len(name), name))
    return iter(by_size)


def told_step_by_step(row):
    """The rules by the words of the document."""
    fresh = names_in_order()
    rules = {}
    items = [(sign, 1) for sign in row]
    while True:
        at = 0
        while at + 1 < len(items):
            if items[at][0] == items[at + 1][0]:
                items[at:at + 2] = [(items[at][0], items[at][1] + items[at + 1][1])]
            else:
                at += 1
        pairs = list(zip(items, items[1:]))
        again = [pair for pair in pairs if pairs.count(pair) >= 2]
        if not again:
            break
        best = max(again, key=lambda pair: (pairs.count(pair), -pairs.index(pair)))
        name = next(fresh)
        rules[name] = best
        at = 0
        while at + 1 < len(items):
            if (items[at], items[at + 1]) == best:
                items[at:at + 2] = [(name, 1)]
            at += 1
    while len(items) > 40:
        groups = [items[at:at + 40] for at in range(0, len(items), 40)]
        items = []
        for group in groups:
            name = next(fresh)
            rules[name] = tuple(group)
            items.append((name, 1))
    root = next(fresh)
    rules[root] = tuple(items)
    return rules, root


class ListedTest(unittest.TestCase):
    def check(self, signs, row):
        told = told_by_rules(signs, row)
        rules, root = told_step_by_step(row)
        self.assertEqual(told, Text(signs, rules, root))
        self.assertEqual(list(told.rules.items()), list(rules.items()))
        self.assertEqual(listed(told), list(row))
        return told

    def test_held_against_the_steps(self):
        rng = random.Random(14)
        for _ in range(100):
            signs = rng.randint(1, 5)
            self.check(signs, [rng.randrange(signs) for _ in range(rng.randint(0, 60))])
        for row in ([0, 1] * 20, [0, 0, 1] * 13, [0, 1, 2, 0, 1, 2, 3, 0, 1], [0, 1, 0] * 9, [0] * 50 + [1] + [0] * 50):
            self.check(4, row)

    def test_empty_and_runs(self):
        self.assertEqual(told_by_rules(4, []).rules, {"A": ()})
        self.assertEqual(told_by_rules(4, [3] * 2000).rules, {"A": ((3, 2000),)})
        self.assertEqual(told_by_rules(2, (0, 0, 1)).rules, {"A": ((0, 2), (1, 1))})

    def test_ties_go_to_the_first_place(self):
        told = told_by_rules(4, [2, 3, 0, 1, 2, 3, 0, 1])
        self.assertEqual(told.rules, {"A": ((2, 1), (3, 1)), "B": (("A", 1), (0, 1)), "C": (("B", 1), (1, 1)),
                                      "D": (("C", 2),)})

    def test_pairs_are_told_by_counts(self):
        told = told_by_rules(3, [0, 1, 1, 0, 1, 2, 0, 1, 1])
        self.assertEqual(told.rules, {"A": ((0, 1), (1, 2)), "B": (("A", 1), (0, 1), (1, 1), (2, 1), ("A", 1))})

    def test_pairs_that_overlap(self):
        self.assertEqual(told_by_rules(2, [0, 1, 0, 1, 0]).rules,
                         {"A": ((0, 1), (1, 1)), "B": (("A", 2), (0, 1))})

    def test_more_than_forty_items(self):
        row = list(range(100))
        told = self.check(100, row)
        self.assertEqual(told.rules["C"], tuple((sign, 1) for sign in range(80, 100)))
        self.assertEqual((told.root, told.rules["D"]), ("D", (("A", 1), ("B", 1), ("C", 1))))
        self.assertEqual(self.check(100, list(range(41))).rules["B"], ((40, 1),))
        self.assertEqual(len(self.check(100, list(range(40))).rules), 1)

    def test_names_behind_z(self):
        rng = random.Random(15)
        told = self.check(9, [rng.randrange(9) for _ in range(400)])
        self.assertIn("AB", told.rules)
        told = told_by_rules(2000, list(range(1700)))
        self.assertEqual((told.root, len(told.rules)), ("AT", 46))
        self.assertEqual(told.part(0, 1700), tuple(range(1700)))

    def test_long_lists(self):
        rng = random.Random(16)
        row = [rng.randrange(3) for _ in range(2000)]
        told = told_by_rules(3, row)
        self.assertEqual(told.part(0, 2000), tuple(row))
        self.assertEqual(raised(told_by_rules, 3, row + [0]), ("TooMany", "signs", 2001, 2000))

    def test_errors(self):
        for value in NO_INTEGERS + [0, -1, 2001]:
            self.assertEqual(raised(told_by_rules, value, [7] * 2001), ("BadSigns", value))
        self.assertEqual(raised(told_by_rules, 3, [7] * 2001), ("TooMany", "signs", 2001, 2000))
        for value in NO_INTEGERS + [-1, 3]:
            self.assertEqual(raised(told_by_rules, 3, [0, 2, value, "x"]), ("BadSign", 2))
