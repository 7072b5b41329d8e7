"""Promise 12: maps of numbers."""

import random
import unittest

from tests.helpers import NO_INTEGERS, raised
from wordvault.maps import NumberMap


def random_map(rng, old, many):
    fresh = sorted(rng.sample(range(many), rng.randint(0, min(old, many))))
    kept = sorted(rng.sample(range(old), len(fresh)))
    numbers = [None] * old
    for place, number in zip(kept, fresh):
        numbers[place] = number
    return NumberMap(many, numbers)


class MapsTest(unittest.TestCase):
    def test_attributes_and_equality(self):
        given = [0, None, 3]
        told = NumberMap(4, given)
        given.append(5)
        self.assertEqual((told.many, told.numbers), (4, (0, None, 3)))
        self.assertEqual(told, NumberMap(4, (0, None, 3)))
        self.assertNotEqual(told, NumberMap(5, (0, None, 3)))
        self.assertNotEqual(told, NumberMap(4, (0, None, 2)))
        for value in (None, 4, (0, None, 3), [4, (0, None, 3)]):
            self.assertFalse(told == value)

    def test_edges(self):
        self.assertEqual(NumberMap(0, []).fresh_numbers(), [])
        self.assertEqual(NumberMap(0, [None, None]).numbers, (None, None))
        self.assertEqual(NumberMap(3, []).fresh_numbers(), [0, 1, 2])
        whole = NumberMap(2000, list(range(2000)))
        self.assertEqual(whole.number_behind(1999), 1999)
        self.assertEqual(whole.ranges_behind([(0, 1999)]), [(0, 1999)])
        self.assertEqual(NumberMap(2000, [None] * 1999 + [1999]).number_behind(1999), 1999)

    def test_errors_of_the_class(self):
        for value in NO_INTEGERS + [-1, 2001, 10 ** 39]:
            self.assertEqual(raised(NumberMap, value, []), ("BadMany", value))
        self.assertEqual(raised(NumberMap, 1, [None] * 2001), ("TooMany", "numbers", 2001, 2000))
        self.assertEqual(raised(NumberMap, 2001, [5] * 2001), ("BadMany", 2001))
        self.assertEqual(raised(NumberMap, 1, [5] * 2001), ("TooMany", "numbers", 2001, 2000))
        for value in [value for value in NO_INTEGERS if value is not None] + [-1, 4, 2, 1]:
            self.assertEqual(raised(NumberMap, 4, [0, 2, value, "x"]), ("BadMap", 2))
        self.assertEqual(raised(NumberMap, 0, [None, 0]), ("BadMap", 1))
        self.assertEqual(raised(NumberMap, 9, [3, None, 3]), ("BadMap", 2))

    def test_number_behind(self):
        told = NumberMap(5, [0, 2, None, 4])
        self.assertEqual([told.number_behind(number) for number in range(4)], [0, 2, None, 4])
        for value in NO_INTEGERS + [-1, 4]:
            self.assertEqual(raised(told.number_behind, value), ("NoNumber", value))

    def test_fresh_numbers_are_new_with_each_call(self):
        told = NumberMap(3, [1])
        told.fresh_numbers().append(7)
        self.assertEqual(told.fresh_numbers(), [0, 2])

    def test_followed_by(self):
        rng = random.Random(1)
        for _ in range(200):
            one = random_map(rng, rng.randint(0, 8), rng.randint(0, 8))
            other = random_map(rng, one.many, rng.randint(0, 8))
            told = one.followed_by(other)
            self.assertEqual(told.many, other.many)
            wished = [None if number is None else other.numbers[number] for number in one.numbers]
            self.assertEqual(list(told.numbers), wished)
        self.assertEqual(raised(NumberMap(2, []).followed_by, NumberMap(2, [])), ("OtherMap",))
        self.assertEqual(raised(NumberMap(2, [0, 1]).followed_by, NumberMap(9, [0, 1, 2])), ("OtherMap",))

    def test_ranges_behind(self):
        told = NumberMap(9, [0, 1, None, 4, 5, 8])
        self.assertEqual(told.ranges_behind([]), [])
        self.assertEqual(told.ranges_behind([(2, 2)]), [])
        self.assertEqual(told.ranges_behind([(0, 5)]), [(0, 1), (4, 5), (8, 8)])
        self.assertEqual(told.ranges_behind(((0, 0), (2, 3), (5, 5))), [(0, 0), (4, 4), (8, 8)])
        self.assertEqual(NumberMap(3, [0, None, 1]).ranges_behind([(0, 0), (2, 2)]), [(0, 1)])

    def test_ranges_behind_held_against_lists(self):
        rng = random.Random(2)
        for _ in range(300):
            told = random_map(rng, rng.randint(1, 9), rng.randint(0, 12))
            chosen = sorted(rng.sample(range(len(told.numbers)), rng.randint(0, len(told.numbers))))
            behind = [told.numbers[number] for number in chosen if told.numbers[number] is not None]
            self.assertEqual(told.ranges_behind(ranges(chosen)), ranges(behind))

    def test_bad_ranges(self):
        told = NumberMap(9, [0, 1, None, 4, 5, 8])
        for value in NO_INTEGERS + [0, (1,), [0, 1], (0, 1, 2), (0, 6), (-1, 2), (3, 2), (0, True), ("0", 1), (None, 1)]:
            self.assertEqual(raised(told.ranges_behind, [value]), ("BadRange", 0))
        self.assertEqual(raised(told.ranges_behind, [(0, 1), (2, 3)]), ("BadRange", 1))
        self.assertEqual(raised(told.ranges_behind, [(0, 1), (1, 3)]), ("BadRange", 1))
        self.assertEqual(raised(told.ranges_behind, [(3, 3), (0, 1), 7]), ("BadRange", 1))
        self.assertEqual(raised(NumberMap(1, []).ranges_behind, [(0, 0)]), ("BadRange", 0))


def ranges(numbers):
    told = []
    for number in numbers:
        if number - 1 not in numbers:
            told.append([number, number])
        told[-1][1] = number
    return [tuple(pair) for pair in told]
