"""Promise 22: texts that are the same, and where others part."""

import random
import time
import unittest

from tests.helpers import NO_INTEGERS, raised, random_text, told_otherwise
from tests.test_texts import chain
from wordvault.edits import cut_out, joined, put_over, repeated, turned
from wordvault.levels import alike_from, is_ahead, parted, same
from wordvault.names import name_at
from wordvault.texts import Text

GREAT = 10 ** 30


def alike(one, other):
    many = 0
    while many < min(len(one), len(other)) and one[many] == other[many]:
        many += 1
    return many


def fibonacci(names):
    """Each name has the two names below it."""
    rules = {"A": [(1, 1)], "B": [(0, 1)]}
    for number in range(2, names):
        rules[name_at(number)] = [(name_at(number - 1), 1), (name_at(number - 2), 1)]
    return Text(2, rules, name_at(names - 1))


def fibonacci_otherwise(names):
    """The same text by the names two and three below."""
    rules = {"A": [(1, 1)], "B": [(0, 1)], "C": [(0, 1), (1, 1)]}
    for number in range(3, names):
        two, three = name_at(number - 2), name_at(number - 3)
        rules[name_at(number)] = [(two, 1), (three, 1), (two, 1)]
    return Text(2, rules, name_at(names - 1))


def halves(depth):
    """0110 1001 ..: each text has the one below it, and behind it the same with the signs exchanged."""
    rules = {name_at(0): [(0, 1)], name_at(1): [(1, 1)]}
    for number in range(1, depth):
        one, other = name_at(2 * number - 2), name_at(2 * number - 1)
        rules[name_at(2 * number)] = [(one, 1), (other, 1)]
        rules[name_at(2 * number + 1)] = [(other, 1), (one, 1)]
    return Text(2, rules, name_at(2 * depth - 2))


def halves_shifted(depth):
    """The same text and a sign more, told by the rows that begin one place behind the halves."""
    rules = {}

    def name(number, sign, behind):
        return name_at(4 * number + 2 * sign + behind)

    for number in range(depth):
        for sign in (0, 1):
            for behind in (0, 1):
                if number == 0:
                    row = [(behind, 1)]
                else:
                    row = [(name(number - 1, sign, 1 - sign), 1), (name(number - 1, 1 - sign, behind), 1)]
                rules[name(number, sign, behind)] = row
    rules["ZZZZ"] = [(0, 1), (name(depth - 1, 0, 1), 1)]
    return Text(2, rules, "ZZZZ")


def nested(depth, count):
    """Each name has the one below it so often, and a 0."""
    rules = {"A": [(0, 1), (1, 1)]}
    for number in range(1, depth):
        rules[name_at(number)] = [(name_at(number - 1), count), (0, 1)]
    return Text(2, rules, name_at(depth - 1))


def nested_otherwise(depth, count):
    """The same text: a 0, and behind it all is told as if it began one place later."""
    rules = {name_at(0): [(1, 1)], name_at(1): [(1, 1), (0, 1)]}
    for number in range(1, depth):
        open_end, closed = name_at(2 * number - 2), name_at(2 * number - 1)
        rules[name_at(2 * number)] = [(closed, count - 1), (open_end, 1), (0, 1)]
        rules[name_at(2 * number + 1)] = [(closed, count - 1), (open_end, 1), (0, 2)]
    rules["ZZZZ"] = [(0, 1), (name_at(2 * depth - 2), 1)]
    return Text(2, rules, "ZZZZ")


class LevelsTest(unittest.TestCase):
    def check(self, one, other, row, other_row, rng):
        place = alike(row, other_row)
        is_same = row == other_row
        self.assertEqual(same(one, other), is_same)
        self.assertEqual(parted(one, other), None if is_same else place)
        self.assertEqual(is_ahead(one, other), row < other_row)
        for _ in range(3):
            first, second = rng.randint(0, len(row)), rng.randint(0, len(other_row))
            self.assertEqual(alike_from(one, first, other, second), alike(row[first:], other_row[second:]))

    def test_held_against_lists(self):
        rng = random.Random(13)
        for _ in range(300):
            one, row = random_text(rng, rng.randint(1, 3), rng.randint(1, 12))
            other, other_row = random_text(rng, rng.randint(1, 3), rng.randint(1, 12))
            self.check(one, other, row, other_row, rng)
            changed = list(row)
            for _ in range(rng.choice([0, 0, 1])):
                changed[rng.randint(0, len(row)):] = [rng.randrange(3)]
            self.check(one, told_otherwise(rng, 3, changed), row, changed, rng)

    def test_unlike_signs_count_only_where_they_stand(self):
        one, other = Text(2, {"A": [(0, 3)]}, "A"), Text(2000, {"B": [("C", 3)], "C": [(0, 1)]}, "B")
        self.assertTrue(same(one, other))
        self.assertIsNone(parted(one, other))
        self.assertFalse(is_ahead(one, other))
        other = Text(2000, {"B": [(0, 2), (1999, 1)]}, "B")
        self.assertEqual((parted(one, other), is_ahead(one, other), is_ahead(other, one)), (2, True, False))

    def test_ends(self):
        empty, one = Text(1, {"A": [("B", 9)], "B": []}, "A"), Text(2, {"A": [(1, 5)]}, "A")
        self.assertEqual((same(empty, empty), parted(empty, one), is_ahead(empty, one), is_ahead(one, empty)),
                         (True, 0, True, False))
        for value in NO_INTEGERS + [-1, 6]:
            self.assertEqual(raised(alike_from, one, value, one, "x"), ("BadPlace", value))
            self.assertEqual(raised(alike_from, one, 5, one, value), ("BadPlace", value))
        self.assertEqual([alike_from(one, first, one, second) for first, second in ((0, 0), (5, 0), (5, 5), (2, 1))],
                         [5, 0, 0, 3])

    def test_great_texts_told_in_unlike_ways(self):
        one = Text(2, {"A": [("B", GREAT), (0, 1)], "B": [(0, 1), (1, 1)]}, "A")
        other = Text(2, {"A": [(0, 1), ("B", GREAT)], "B": [(1, 1), (0, 1)]}, "A")
        self.assertTrue(same(one, other))
        self.assertFalse(same(one, turned(joined(other, one))))
        self.assertTrue(same(one, turned(one)))
        size = one.size
        for place in (0, 1, size // 2, size - 2, size - 1):
            changed = put_over(other, place, 1, Text(2, {"A": [(1 - one.sign_of(place), 1)]}, "A"))
            self.assertEqual(parted(one, changed), place)
            self.assertEqual(is_ahead(one, changed), one.sign_of(place) == 0)
            self.assertFalse(same(one, changed))
        self.assertEqual(parted(one, cut_out(other, 0, size - 1)), size - 1)
        self.assertEqual(alike_from(one, 1, other, GREAT + 1), size - GREAT - 1)
        self.assertEqual(alike_from(one, 0, other, 1), 0)

    def test_periods(self):
        # (0 1 1) as often as 10 ** 20 in blocks of unlike sizes.
        rules = {"A": [("B", 10 ** 20)], "B": [(0, 1), (1, 2)]}
        one = Text(2, rules, "A")
        other = joined(cut_out(repeated(Text(2, {"A": [(0, 1), (1, 2), (0, 1), (1, 2)]}, "A"), 10 ** 20), 0, 2),
                       Text(2, {"A": [("B", 10 ** 20 - 1), (1, 1)], "B": [(1, 1), (0, 1), (1, 1)]}, "A"))
        self.assertTrue(same(one, other))
        self.assertTrue(same(repeated(one, 7), Text(2, {"A": [("B", 7 * 10 ** 20)], "B": [(0, 1), (1, 2)]}, "A")))
        self.assertEqual(parted(repeated(one, 7), repeated(one, 8)), 21 * 10 ** 20)

    def test_fibonacci_texts(self):
        began = time.time()
        one, other = fibonacci(600), fibonacci_otherwise(600)
        self.assertEqual(one.size, other.size)
        self.assertTrue(same(one, other))
        longer = fibonacci_otherwise(601)
        self.assertEqual(parted(one, longer), one.size)
        self.assertEqual((is_ahead(one, longer), is_ahead(longer, one)), (True, False))
        last = put_over(other, other.size - 2, 1, Text(2, {"A": [(1 - other.sign_of(other.size - 2), 1)]}, "A"))
        self.assertEqual(parted(one, last), one.size - 2)
        # From the second but one on a text has the signs of the one two names below, but for the last two.
        below = fibonacci(599).size
        self.assertEqual(alike_from(one, below, other, 0), one.size - below)
        self.assertEqual(alike_from(longer, one.size, fibonacci_otherwise(602), 0), longer.size - one.size)
        self.assertEqual(alike_from(fibonacci(598), 0, other, fibonacci(597).size), fibonacci(596).size - 2 +
                         fibonacci(597).size)
        self.assertLess(time.time() - began, 60)

    def test_halves(self):
        one, other = halves(250), halves_shifted(250)
        self.assertEqual(parted(one, other), one.size)
        self.assertEqual(alike_from(one, one.size // 2, other, one.size // 4), one.size // 4)

    def test_deep_names(self):
        began = time.time()
        self.assertTrue(same(nested(200, GREAT), nested_otherwise(200, GREAT)))
        text = chain(2000, GREAT)
        self.assertTrue(same(text, text))
        halved = {name_at(number): [(name_at(number + 1), GREAT // 2), (name_at(number + 1), GREAT // 2), (1, 1)]
                  for number in range(1999)}
        halved[name_at(1999)] = [(0, 1)]
        other = Text(2, halved, "A")
        self.assertTrue(same(text, other))
        halved[name_at(1000)][2] = (0, 1)
        place = parted(text, Text(2, halved, "A"))
        self.assertEqual(place, Text(2, halved, name_at(1001)).size * GREAT)
        self.assertLess(time.time() - began, 60)

    def test_powers_of_powers(self):
        rules = {name_at(number): [(name_at(number + 1), GREAT)] for number in range(1999)}
        rules[name_at(1999)] = [(0, 1), (1, 1)]
        one = Text(2, rules, "A")
        halves_told = {name: [(row[0][0], GREAT // 2)] * 2 if len(row) == 1 else row for name, row in rules.items()}
        self.assertTrue(same(one, Text(2, halves_told, "A")))
        below = Text(2, dict(list(rules.items())[1:]), "B")
        self.assertEqual(parted(one, joined(below, Text(2, {"A": [(1, 1)]}, "A"))), one.size // GREAT)
