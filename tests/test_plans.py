"""Promises 8 and 45: which codes are in use along a history."""

import random
import time
import unittest

from tests.coders import cost_told, full_lengths, least_told
from tests.helpers import NO_INTEGERS, raised
from tests.test_renumbered import by_rule
from wordvault.codes import Code, is_least
from wordvault.plans import CodePlan, code_at, is_plan, plan_codes

EXAMPLE = [("tally", (2, 1, 1)), ("put", 0), ("tally", (1, 3, 1, 1)), ("tally", (4, 3, 1, 1))]


def tallies_told(history):
    told = []
    for kind, value in history:
        told.append(list(value) if kind == "tally" else told[-1][:value] + [0] + told[-1][value:])
    return told


def can_be_in_use(history, tallies, start, end):
    """Whether one code can be in use from one pair to another one, held against all codes."""
    for lengths in full_lengths(len(tallies[start])):
        row = list(lengths)
        for index in range(start, end + 1):
            kind, value = history[index]
            if kind == "put" and index > start:
                ahead = tallies[index - 1]
                sign = min(range(len(ahead)), key=lambda one: (ahead[one], one))
                row[sign] += 1
                row.insert(value, row[sign])
            if cost_told(row, tallies[index]) != least_told(tallies[index]):
                break
        else:
            return True
    return False


def fewest_codes(history, tallies):
    """As few codes as can be: each one is in use as long as it goes."""
    many, start = 0, 0
    while start < len(history):
        end = start
        while end + 1 < len(history) and can_be_in_use(history, tallies, start, end + 1):
            end += 1
        many += 1
        start = end + 1
    return many


def random_history(rng, most):
    signs = rng.randint(2, 4)
    counts = [rng.randint(0, 6) for _ in range(signs)]
    history = [("tally", tuple(counts))]
    while len(history) < most:
        pick = rng.random()
        if pick < 0.25 and len(counts) < 6:
            rank = rng.randint(0, len(counts))
            counts.insert(rank, 0)
            history.append(("put", rank))
        else:
            counts = [max(0, count + rng.choice([-1, 0, 0, 0, 1, 2])) for count in counts]
            history.append(("tally", tuple(counts)))
    return history


class PlansTest(unittest.TestCase):
    def test_held_against_all_codes(self):
        rng = random.Random(71)
        sizes = {}
        for _ in range(120):
            history = random_history(rng, rng.randint(1, 8))
            tallies = tallies_told(history)
            plan = plan_codes(history)
            self.assertEqual(plan.history, tuple(history))
            self.assertEqual(len(plan.codes), fewest_codes(history, tallies))
            self.assertEqual(len(plan.stops), len(plan.codes) - 1)
            sizes[len(plan.codes)] = True
            self.assertTrue(is_plan(plan))
            for start, end in plan.stops:
                self.assertFalse(can_be_in_use(history, tallies, start, end))
            words = None
            starts = dict(plan.codes)
            for index, (kind, value) in enumerate(history):
                if index in starts:
                    words = starts[index].words
                elif kind == "put":
                    words = by_rule(words, tallies[index - 1], value)
                self.assertEqual(code_at(plan, index).words, words)
                self.assertTrue(is_least(code_at(plan, index), tallies[index]))
        self.assertGreater(len(sizes), 2)

    def test_puts_behind_each_other(self):
        history = [("tally", (1, 1))] + [("put", number) for number in range(2, 30)] + [("tally", (0, 9) + (0,) * 28)]
        plan = plan_codes(history)
        self.assertTrue(is_plan(plan))
        self.assertTrue(all(is_least(code_at(plan, index), tally) for index, tally in enumerate(tallies_told(history))))
        with_lists = plan_codes([(kind, list(value) if kind == "tally" else value) for kind, value in history])
        self.assertEqual(with_lists.history, tuple(history))
        self.assertEqual(with_lists.codes, plan.codes)

    def test_a_put_may_begin(self):
        # From the put on another code: that one is used for the tally of the put, too.
        history = [("tally", (1, 0, 0)), ("put", 3), ("tally", (0, 5, 5, 5))]
        tallies = tallies_told(history)
        for start in (1, 2):
            for lengths in full_lengths(len(tallies[start])):
                plan = CodePlan(history, [(0, Code([1, 2, 2])), (start, Code(lengths))], [(0, 2)])
                wished = cost_told(lengths, tallies[2]) == least_told(tallies[2])
                if start == 1:
                    wished = wished and cost_told(lengths, tallies[1]) == least_told(tallies[1])
                self.assertIs(is_plan(plan), wished)

    def test_errors_in_order(self):
        self.assertEqual(raised(plan_codes, []), ("TooMany", "pairs", 0, 400))
        self.assertEqual(raised(plan_codes, ["x"] * 401), ("TooMany", "pairs", 401, 400))
        wrong = NO_INTEGERS + [0, ("tally",), ("tally", (1, 1, 1), 0), ["tally", (1, 1, 1)], ("tally", (1, 1)),
                               ("tally", (1, 1, 1, 1)), ("tally", (1, 1, True)), ("tally", (1, 1, -1)), ("tally", None),
                               ("tally", "abc"), ("tally", {0: 1, 1: 1, 2: 1}), ("Tally", (1, 1, 1)), (None, (1, 1, 1)),
                               ("put",), ("put", -1), ("put", 4), ("put", True), ("put", None), ("put", (0,)), ["put", 0]]
        for value in wrong:
            history = [("tally", (1, 2, 3)), value, "x"]
            for call in (plan_codes, lambda told: is_plan(CodePlan(told, (), ()))):
                # What is kept by a result has tuples in the place of lists.
                if call is not plan_codes and isinstance(value, list) and value:
                    continue
                self.assertEqual(raised(call, history), ("BadHistory", 1), value)
        for value in [("put", 0), ("tally", (1,)), ("tally", (1,) * 2001), ("tally", ())]:
            self.assertEqual(raised(plan_codes, [value]), ("BadHistory", 0))
        great = [("tally", (1,) * 1999), ("put", 0), ("put", 0)]
        self.assertEqual(raised(plan_codes, great), ("BadHistory", 2))
        self.assertTrue(is_plan(plan_codes(great[:2])))

    def test_code_at(self):
        plan = plan_codes(EXAMPLE)
        for value in NO_INTEGERS + [-1, 4]:
            self.assertEqual(raised(code_at, plan, value), ("BadPlace", value))

    def test_plans_that_are_bent(self):
        plan = plan_codes(EXAMPLE)
        self.assertEqual((len(plan.codes), plan.stops), (2, ((0, 3),)))
        one, two = plan.codes
        self.assertTrue(is_plan(CodePlan(list(EXAMPLE), [list(one), two], [[0, 3]])))
        for codes in NO_INTEGERS + [7, (), (one,), (two,), (one, one), (two, one), (one, two, two), (one, 7), (7, two), (one, (3,)),
                                    (one, (4, two[1])), (one, (True, two[1])), ((1, one[1]), two), (one, (3, None)),
                                    (one, (3, one[1])), (one, (3, Code([2, 2, 2, 2]))), ((0, Code([2, 2, 1])), two),
                                    ((0, two[1]), two), (one + (0,), two), ((None, one[1]), two)]:
            self.assertIs(is_plan(CodePlan(EXAMPLE, codes, plan.stops)), False, codes)
        for stops in NO_INTEGERS + [7, (), ((0, 3), (3, 3)), ((0, 2),), ((1, 2),), ((3, 3),), ((3, 0),), ((0, 4),), ((-1, 3),),
                                    ((0,),), (0, 3), ((0, 3, 3),), ((False, 3),), ((0, None),)]:
            self.assertIs(is_plan(CodePlan(EXAMPLE, plan.codes, stops)), False, stops)
        for history in [None, True, 7, "x", {"a": 1}]:
            self.assertIs(is_plan(CodePlan(history, plan.codes, plan.stops)), False)
        self.assertEqual(raised(is_plan, CodePlan([], plan.codes, plan.stops)), ("TooMany", "pairs", 0, 400))
        # More codes than are needed.
        more = [("tally", (1, 1)), ("tally", (2, 2))]
        half = (0, Code([1, 1])), (1, Code([1, 1]))
        for stops in [((0, 1),), ((0, 0),), ((1, 1),), ()]:
            self.assertIs(is_plan(CodePlan(more, half, stops)), False)
        self.assertTrue(is_plan(CodePlan(more, half[:1], ())))

    def test_great_history(self):
        began = time.time()
        rng = random.Random(72)
        counts = [rng.randint(0, 10 ** 30) for _ in range(1900)]
        history = [("tally", tuple(counts))]
        for number in range(399):
            if number % 4 == 3:
                rank = rng.randint(0, len(counts))
                counts.insert(rank, 0)
                history.append(("put", rank))
            else:
                counts = [count + rng.randint(0, 1) for count in counts]
                history.append(("tally", tuple(counts)))
        plan = plan_codes(history)
        self.assertTrue(is_plan(plan))
        self.assertEqual(code_at(plan, 399).size, len(counts))
        self.assertLess(time.time() - began, 60)


if __name__ == "__main__":
    unittest.main()
