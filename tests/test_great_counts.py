"""Promises 2 and 22: texts with great counts are compared in few steps."""

import itertools
import random
import signal
import sys
import unittest

from tests.helpers import random_text, told_otherwise
from tests.rings import Prints, Row, alike_rows, one_later, random_rules, two_tellings
from wordvault.edits import joined, put_over
from wordvault.levels import alike_from, is_ahead, nodes_of, parted, same
from wordvault.squeezes import Letters, PairCutter, RunCutter, sides_of
from wordvault.texts import Text
from wordvault.units import Units

COUNTS = (10 ** 18, 10 ** 30)
SECONDS = 60


def lines_run(call, most):
    """How many lines a call runs; an AssertionError if there are more than most."""
    many = 0

    def count(frame, event, argument):
        nonlocal many
        many += 1
        if many > most:
            raise AssertionError(f"more than {most} steps")
        return count

    old = sys.gettrace()
    sys.settrace(count)
    try:
        call()
    finally:
        sys.settrace(old)
    return many


class GreatCountsTest(unittest.TestCase):
    def setUp(self):
        def too_long(number, frame):
            raise AssertionError(f"no answer within {SECONDS} seconds")

        self.old = signal.signal(signal.SIGALRM, too_long)
        signal.alarm(SECONDS)

    def tearDown(self):
        signal.alarm(0)
        signal.signal(signal.SIGALRM, self.old)

    def check_rows(self, one, text, other, other_text, places=((0, 0),)):
        """Holds all functions against what two Rows say."""
        place = alike_rows(one, 0, other, 0)
        is_same = place == one.size == other.size
        self.assertEqual(parted(text, other_text), None if is_same else place)
        self.assertEqual(same(text, other_text), is_same)
        if is_same:
            less = False
        elif place in (one.size, other.size):
            less = place == one.size
        else:
            less = one.sign(place) < other.sign(place)
        self.assertEqual(is_ahead(text, other_text), less)
        self.assertEqual(is_ahead(other_text, text), not is_same and not less)
        for first, second in places:
            self.assertEqual(alike_from(text, first, other_text, second), alike_rows(one, first, other, second))

    def check_alike(self, one, first, other, second):
        """Whether alike_from tells what the Prints of two texts say; what it tells."""
        alike = alike_from(one, first, other, second)
        most = min(one.size - first, other.size - second)
        self.assertTrue(0 <= alike <= most)
        self.assertEqual(Prints(one).stretch(first, alike), Prints(other).stretch(second, alike))
        if alike < most:
            self.assertNotEqual(one.sign_of(first + alike), other.sign_of(second + alike))
        return alike

    def test_the_told_input(self):
        for many in COUNTS:
            one = Text(2, {"U": [(0, 1), (1, 1), (0, 1), (1, 1), (0, 1)], "A": [("U", many)]}, "A")
            other = Text(2, {"V": [(0, 2), (1, 1), (0, 1), (1, 1)],
                             "A": [(0, 1), (1, 1), (0, 1), (1, 1), ("V", many - 1), (0, 1)]}, "A")
            self.assertIsNone(parted(one, other))
            self.assertTrue(same(one, other))
            self.assertFalse(is_ahead(one, other))
            self.assertEqual(alike_from(one, 0, other, 5), 5 * many - 5)

    def test_all_short_rings_told_from_each_place(self):
        for size in range(1, 8):
            for unit in itertools.product((0, 1), repeat=size):
                for at in range(size):
                    row = Row((unit, COUNTS[at % 2]))
                    self.check_rows(row, row.text(), row, row.text(at), ((0, size), (at, 1), (0, row.size - 2)))

    def test_longer_rings_told_from_each_place(self):
        rng = random.Random(22)
        for _ in range(60):
            unit = [rng.randrange(rng.choice([2, 3, 5])) for _ in range(rng.randint(8, 12))]
            for many in COUNTS:
                row = Row((unit, many))
                for at in range(len(unit)):
                    places = [(rng.randrange(40), rng.randrange(40)), (rng.randrange(row.size), rng.randrange(row.size))]
                    self.check_rows(row, row.text(), row, row.text(at), places)

    def test_tails(self):
        rng = random.Random(23)
        units = ([0, 1, 0, 1, 1], [1, 0, 1, 0, 0], [1, 0, 1, 0, 1], [0, 0, 1, 0, 1, 1], [0, 1], [0, 1, 2], [1])
        for unit in units:
            tails = [[], [0], [1], [2], unit, unit[:-1] + [3], unit + unit[:2] + [0, 4], unit * 2 + [2, 1]]
            for many in COUNTS:
                for at in range(len(unit)):
                    for tail, other_tail in itertools.product(tails, repeat=2):
                        one, other = Row((unit, many), (tail, 1)), Row((unit, many), (other_tail, 1))
                        self.check_rows(one, one.text(), other, other.text(at))
                        if rng.random() < 0.1:
                            fewer = Row((unit, many - 1), (other_tail, 1))
                            self.check_rows(one, one.text(at), fewer, fewer.text(), ((len(unit), 0), (3, 1)))

    def test_rings_beside_one_another(self):
        # Signs of the one ring stand in the other one, too, in pairs that no splitting can have all at once.
        rng = random.Random(24)
        for _ in range(400):
            signs = rng.randint(2, 5)
            parts = [([rng.randrange(signs) for _ in range(rng.randint(1, 8))], rng.choice([1, 2, 10 ** 18, 10 ** 30]))
                     for _ in range(rng.randint(2, 4))]
            one = Row(*parts)
            part = rng.randrange(len(parts))
            parts[part] = (parts[part][0], max(1, parts[part][1] - rng.choice([0, 0, 1, 5])))
            other = Row(*parts)
            texts = [row.text(*[rng.randrange(len(unit)) for unit, _ in row.parts]) for row in (one, other)]
            step = len(parts[0][0])
            places = [(0, min(step, other.size)), (rng.randrange(one.size), rng.randrange(other.size))]
            self.check_rows(one, texts[0], other, texts[1], places)

    def test_rings_of_rings_told_from_each_place(self):
        for unit, tail in (([0, 1], [0]), ([0, 1, 0], [1, 1]), ([0, 1, 0, 1, 1], [0, 0, 1]), ([0, 0, 1], [])):
            for many in COUNTS:
                size = len(unit) * many + len(tail)
                rules = {"U": [(sign, 1) for sign in unit], "B": [("U", many)] + [(sign, 1) for sign in tail]}
                one = Text(2, {"A": [("B", many)], **rules}, "A")
                for at in range(len(unit)):
                    ahead, rest = rules["U"][:at], rules["U"][at:]
                    moved = {"V": rest + ahead, "C": [("V", many - 1)] + rest + rules["B"][1:] + ahead}
                    last = [("V", many - 1)] + rest + rules["B"][1:]
                    other = Text(2, {"A": ahead + [("C", many - 1)] + last, **moved}, "A")
                    self.assertIsNone(parted(one, other))
                    self.assertTrue(same(one, other))
                    self.assertEqual(alike_from(one, size, other, 3 * size), one.size - 3 * size)
                    self.assertEqual(alike_from(one, 0, other, one.size - size), size)
                    for place in (0, size - 1, one.size // 2, one.size - 1):
                        changed = put_over(other, place, 1, Text(2, {"A": [(1 - one.sign_of(place), 1)]}, "A"))
                        self.assertEqual(parted(one, changed), place)
                        self.assertEqual(is_ahead(one, changed), one.sign_of(place) == 0)

    def test_rings_within_rings_told_from_any_place(self):
        rng = random.Random(25)
        for number in range(300):
            one, other = two_tellings(rng, rng.randint(2, 4), COUNTS[number % 2])
            self.assertIsNone(parted(one, other))
            place = rng.choice([rng.randrange(one.size), one.size - 1])
            other = put_over(other, place, 1, Text(3, {"A": [((one.sign_of(place) + 1) % 3, 1)]}, "A"))
            self.assertEqual(parted(one, other), place)
            self.check_alike(one, rng.randrange(one.size), other, rng.randrange(other.size))
            self.check_alike(one, rng.randrange(min(one.size, 30)), other, rng.randrange(min(other.size, 30)))

    def test_short_rules_told_one_place_later(self):
        rng = random.Random(26)
        for number in range(300):
            great = COUNTS[number % 2]
            counts = rng.choice([[1, 2, 3, great], [1, great], [1, 1, 1, 2, great, great - 1, great // 2], [great]])
            text = random_rules(rng, counts)
            later = one_later(text)
            self.assertEqual(self.check_alike(text, 1, later, 0), text.size - 1)
            self.check_alike(text, 0, later, 0)
            self.check_alike(joined(later, text), rng.randrange(text.size), text, rng.randrange(text.size))

    def check_steps(self, told):
        """Whether the texts that are told of a count are compared in as many steps whatever the count is."""
        one, other = told(1000)
        few = lines_run(lambda: parted(one, other), 500000)
        for many in COUNTS:
            one, other = told(many)
            lines_run(lambda: parted(one, other), few + few // 10 + 100)

    def test_steps_do_not_grow_with_the_count(self):
        rng = random.Random(27)
        for _ in range(60):
            unit = [rng.randrange(rng.choice([2, 3])) for _ in range(rng.randint(2, 10))]
            at, tail = rng.randrange(len(unit)), [rng.randrange(3) for _ in range(rng.randint(0, 6))]
            other_tail = rng.choice([tail, tail + [1], [2] + tail])
            self.check_steps(lambda many: (Row((unit, many), (tail, 1)).text(),
                                           Row((unit, many), (other_tail, 1)).text(at)))
        for seed in range(60):
            def rules(many):
                text = random_rules(random.Random(seed), [1, many, many // 2])
                return text, joined(Text(text.signs, {"A": [(text.sign_of(0), 1)]}, "A"), one_later(text))
            self.check_steps(rules)


class SplittingTest(unittest.TestCase):
    def test_a_quarter_of_the_weight_goes_over(self):
        rng = random.Random(28)
        for _ in range(300):
            letters = rng.randint(2, 12)
            weighed = {}
            for _ in range(rng.randint(1, 40)):
                one, other = rng.sample(range(letters), 2)
                weighed[(one, other)] = rng.choice([1, 1, 16, 1000])
            left, right = sides_of(weighed)
            self.assertFalse(set(left) & set(right))
            over = sum(weight for (one, other), weight in weighed.items() if one in left and other in right)
            self.assertGreaterEqual(4 * over, sum(weighed.values()))

    def test_pairs_that_wait_weigh_more(self):
        letters = Letters(3)
        letters.new_stage()
        run = letters.made_of(((0, 2),))
        letters.new_stage()
        fresh = letters.weighed([(0, 1), (run, 1)])
        self.assertEqual(fresh[(0, 1)], fresh[(run, 1)])
        for _ in range(40):
            letters.new_stage()
        pair = letters.made_of(((0, 1), (1, 1)))
        letters.new_stage()
        letters.new_stage()
        weighed = letters.weighed([(2, 1), (pair, 1)])
        self.assertEqual(weighed[(pair, 1)], fresh[(0, 1)])
        self.assertGreater(weighed[(2, 1)], 60 * weighed[(pair, 1)])

    def test_all_neighbours_are_told(self):
        rng = random.Random(29)
        for _ in range(100):
            one, row = random_text(rng, 3, rng.randint(2, 9))
            other = told_otherwise(rng, 3, row + [0])
            units = Units(3)
            roots = []
            for text in (one, other):
                if text.grammar.rows:
                    roots.append(units.laid_in(text.grammar.rows, [text.grammar.top])[0])
            nodes = nodes_of(units, roots)
            letters = Letters(3)
            for _ in range(4):
                letters.new_stage()
                nodes.squeeze(RunCutter(letters))
                pairs = {}
                for root in nodes.roots:
                    told = letters_below(nodes, root)
                    pairs.update({pair: True for pair in zip(told, told[1:])})
                if not all(letters_below(nodes, root) for root in nodes.roots):
                    break
                self.assertEqual(sorted(nodes.neighbours()), sorted(pairs))
                letters.new_stage()
                left, right = sides_of(letters.weighed(nodes.neighbours()))
                nodes.squeeze(PairCutter(letters, left, right))


def letters_below(nodes, node):
    """All letters that a node tells."""
    base = nodes.bases[node]
    if base is not None:
        copy = letters_below(nodes, base)
        return copy + (list(nodes.gaps[node][0]) + copy) * nodes.times[node]
    told = list(nodes.gaps[node][0])
    for ref, gap in zip(nodes.refs[node], nodes.gaps[node][1:]):
        told += letters_below(nodes, ref) + list(gap)
    return told


if __name__ == "__main__":
    unittest.main()
