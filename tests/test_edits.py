"""Promise 21: texts out of texts."""

import random
import time
import unittest

from tests.helpers import NO_INTEGERS, listed, raised, random_text
from tests.test_texts import chain
from wordvault.edits import cut_out, joined, mapped, put_into, put_over, repeated, taken_out, turned
from wordvault.levels import same
from wordvault.names import name_at
from wordvault.texts import Text

GREAT = 10 ** 30


class EditsTest(unittest.TestCase):
    def check_form(self, told, *texts):
        depth = max(text.depth for text in texts)
        self.assertLessEqual(len(told.rules), sum(len(text.rules) for text in texts) + 4 * depth + 8)
        self.assertLessEqual(told.depth, depth + 4)
        below = {told.root}
        todo = [told.root]
        while todo:
            for part, _ in told.rules[todo.pop()]:
                if isinstance(part, str) and part not in below:
                    below.add(part)
                    todo.append(part)
        self.assertEqual(below, set(told.rules))

    def check(self, told, row, *texts):
        self.assertEqual(listed(told), list(row))
        self.check_form(told, *texts)

    def test_held_against_lists(self):
        rng = random.Random(12)
        for number in range(300):
            signs = rng.randint(1, 3)
            text, row = random_text(rng, signs, rng.randint(1, 10))
            other, other_row = random_text(rng, signs, rng.randint(1, 10))
            first, behind = sorted(rng.choice([0, len(row), rng.randint(0, len(row))]) for _ in range(2))
            many = behind - first
            self.check(cut_out(text, first, many), row[first:behind], text)
            self.check(taken_out(text, first, many), row[:first] + row[behind:], text)
            self.check(put_over(text, first, many, other), row[:first] + other_row + row[behind:], text, other)
            self.check(put_into(text, first, other), row[:first] + other_row + row[first:], text, other)
            self.check(joined(text, other), row + other_row, text, other)
            self.check(repeated(text, number % 4), row * (number % 4), text)
            self.check(turned(text), row[::-1], text)
            numbers = [rng.choice([None, 0, 1, 5]) for _ in range(signs)]
            told = mapped(text, numbers, 6)
            self.assertEqual(told.signs, 6)
            self.check(told, [numbers[sign] for sign in row if numbers[sign] is not None], text)

    def test_rows_of_forty_pairs(self):
        rules = {"A": [("B", 9)] + [(sign % 3, 2) for sign in range(38)] + [("B", 9)],
                 "B": [("C", 3)] + [(sign % 2, 1) for sign in range(39)],
                 "C": [(sign % 3, 1) for sign in range(1, 41)]}
        text = Text(3, rules, "A")
        row = listed(text)
        for first, behind in [(1, len(row) - 1), (50, 60), (200, len(row) - 200), (41, 1470), (0, len(row))]:
            self.check(cut_out(text, first, behind - first), row[first:behind], text)
            self.check(taken_out(text, first, behind - first), row[:first] + row[behind:], text)
            self.check(put_into(text, first, text), row[:first] + row + row[first:], text, text)

    def test_great_texts(self):
        text = Text(2, {"A": [("B", GREAT), (0, 1)], "B": [("C", GREAT), (1, 1)], "C": [(0, GREAT), (1, GREAT)]}, "A")
        size = text.size
        told = cut_out(text, size // 3, size // 3)
        self.check_form(told, text)
        self.assertEqual(told.size, size // 3)
        for place in (0, 7, size // 7, size // 3 - 2):
            self.assertEqual(told.part(place, 2), text.part(size // 3 + place, 2))
        told = taken_out(text, 5, size - 10)
        self.assertEqual((told.size, told.part(0, 10)), (10, text.part(0, 5) + text.part(size - 5, 5)))
        told = repeated(repeated(text, GREAT), GREAT)
        self.assertEqual((told.size, told.part(size * 10 ** 59 - 1, 2)), (size * 10 ** 60, (0, 0)))
        self.assertEqual(turned(text).part(0, 2), (0, 1))
        self.assertEqual(mapped(text, [None, 1], 2).tally(), (0, text.tally()[1]))
        self.assertTrue(same(joined(cut_out(text, 0, size // 2), cut_out(text, size // 2, size - size // 2)), text))
        self.assertTrue(same(put_over(text, 9, GREAT, cut_out(text, 9, GREAT)), text))

    def test_deep_texts(self):
        began = time.time()
        text = chain(450, GREAT)
        told = taken_out(text, text.size // 3, text.size // 5)
        self.check_form(told, text)
        self.assertEqual(told.size, text.size - text.size // 5)
        self.assertEqual(told.part(text.size // 3 - 2, 4),
                         text.part(text.size // 3 - 2, 2) + text.part(text.size // 3 + text.size // 5, 2))
        deepest = chain(2000, GREAT)
        self.assertEqual(cut_out(deepest, 0, 3).part(0, 3), (0, 0, 0))
        self.check_form(turned(deepest), deepest)
        self.assertEqual(raised(joined, deepest, text)[:2], ("TooMany", "rules"))
        self.assertEqual(raised(joined, deepest, Text(3, {"A": []}, "A")), ("OtherSigns",))
        self.assertLess(time.time() - began, 30)

    def test_no_more_rules_than_may_be(self):
        # 2,000 rules less 4 d + 8: no error may be raised.
        rules = {name_at(number): [(number % 2, number + 1)] for number in range(1979)}
        for number in range(40):
            rules[name_at(1979 + number)] = []
        names = list(rules)
        tree = {}
        for at in range(49):
            tree[name_at(3000 + at)] = [(name, 2) for name in names[at * 40:at * 40 + 40]]
        told = {name: rules[name] for name in names[:1900]}
        told.update({name: [pair for pair in row if pair[0] in told] for name, row in tree.items()})
        told["ZZZZ"] = [(name, 3) for name in list(tree)[:40]]
        text = Text(2, told, "ZZZZ")
        self.assertLessEqual(len(told) + 4 * text.depth + 8, 2000)
        size = text.size
        self.check_form(taken_out(text, size // 3, size // 3), text)
        self.check_form(put_over(text, 1, size - 2, Text(2, {"A": [(0, 1)]}, "A")), text, Text(2, {"A": []}, "A"))

    def test_errors(self):
        text, three = Text(2, {"A": [(0, 2), (1, 1)]}, "A"), Text(3, {"A": [(2, 1)]}, "A")
        for call in (cut_out, taken_out, lambda *given: put_over(*given, text)):
            for value in NO_INTEGERS + [-1, 4]:
                self.assertEqual(raised(call, text, value, "x"), ("BadPlace", value))
            for value in NO_INTEGERS + [-1, 3]:
                self.assertEqual(raised(call, text, 1, value), ("BadSize", value))
            self.assertEqual(listed(call(text, 3, 0))[:1], [] if call is cut_out else [0])
        self.assertEqual(raised(put_over, text, "x", None, three), ("OtherSigns",))
        self.assertEqual(raised(put_into, text, "x", three), ("OtherSigns",))
        self.assertEqual(raised(joined, text, three), ("OtherSigns",))
        for value in NO_INTEGERS + [-1, 4]:
            self.assertEqual(raised(put_into, text, value, text), ("BadPlace", value))
        for value in NO_INTEGERS + [-1, GREAT + 1]:
            self.assertEqual(raised(repeated, text, value), ("BadCount", value))
        for value in NO_INTEGERS + [0, -1, 2001]:
            self.assertEqual(raised(mapped, text, [7], value), ("BadSigns", value))
        for value in [value for value in NO_INTEGERS if value is not None] + [-1, 4]:
            self.assertEqual(raised(mapped, text, [None, value, 7, 7], 4), ("BadMap", 1))
        self.assertEqual(raised(mapped, text, [0], 4), ("BadMap", 1))
        self.assertEqual(raised(mapped, text, [], 4), ("BadMap", 0))
        self.assertEqual(raised(mapped, text, [0, 1, None], 4), ("BadMap", 3))
        self.assertEqual(raised(mapped, text, [0, 1, 4], 4), ("BadMap", 2))

    def test_texts_do_not_change(self):
        text = Text(2, {"A": [("B", 3)], "B": [(0, 1), (1, 1)]}, "A")
        rules = text.rules
        for told in (cut_out(text, 1, 3), taken_out(text, 1, 3), joined(text, text), turned(text)):
            self.assertIsNot(told, text)
        self.assertEqual((text.rules, text.part(0, 6)), (rules, (0, 1) * 3))

    def test_nothing_is_left(self):
        text = Text(2, {"A": [(0, 2), (1, 1)]}, "A")
        for told in (cut_out(text, 2, 0), taken_out(text, 0, 3), repeated(text, 0), mapped(text, [None, None], 1),
                     turned(Text(1, {"B": []}, "B")), put_over(text, 0, 3, cut_out(text, 0, 0))):
            self.assertEqual((told.size, told.depth, list(told.rules.values())), (0, 1, [()]))
