"""Promise 20: texts told by rules."""

import random
import time
import unittest

from tests.helpers import NO_INTEGERS, listed, raised, random_text
from wordvault.edits import cut_out, joined, turned
from wordvault.names import name_at
from wordvault.texts import Text

NO_NAMES = [None, True, 0, "", "a", "Aa", "A1", "ABCDEFGHI", "A ", (), ("A",), "\u00c4"]


def chain(rules, count):
    """Names within one another: the root is the first one."""
    told = {name_at(number): [(name_at(number + 1), count), (1, 1)] for number in range(rules - 1)}
    told[name_at(rules - 1)] = [(0, 1)]
    return Text(2, told, "A")


class TextsTest(unittest.TestCase):
    def test_held_against_lists(self):
        rng = random.Random(11)
        for _ in range(150):
            signs = rng.randint(1, 4)
            text, row = random_text(rng, signs, rng.randint(1, 12))
            self.assertEqual((text.size, listed(text)), (len(row), row))
            self.assertEqual(text.part(0, len(row)), tuple(row))
            self.assertEqual([text.sign_of(place) for place in range(len(row))], row)
            self.assertEqual(text.tally(), tuple(row.count(sign) for sign in range(signs)))
            for place in range(0, len(row) + 1, 5):
                self.assertEqual(text.ahead(place), tuple(row[:place].count(sign) for sign in range(signs)))
                many = rng.randint(0, len(row) - place)
                self.assertEqual(text.part(place, many), tuple(row[place:place + many]))
            for sign in range(signs):
                places = [place for place, one in enumerate(row) if one == sign]
                self.assertEqual([text.place_of(sign, count) for count in range(len(places) + 2)], places + [None] * 2)
            self.assertEqual(text.ahead(len(row)), text.tally())

    def test_attributes(self):
        text = Text(3, {"B": [(0, 2)], "A": [["B", 1], (2, 10 ** 30)]}, "A")
        self.assertEqual((text.signs, text.root, text.size, text.depth), (3, "A", 10 ** 30 + 2, 2))
        self.assertEqual(text.rules, {"B": ((0, 2),), "A": (("B", 1), (2, 10 ** 30))})
        self.assertEqual(list(text.rules), ["B", "A"])
        text.rules["C"] = 7
        text.rules.pop("A")
        self.assertEqual(len(text.rules), 2)

    def test_what_is_handed_in_may_change(self):
        pair = [0, 1]
        row = [pair]
        rules = {"A": row}
        text = Text(2, rules, "A")
        pair[1] = 5
        row.append((1, 1))
        rules["B"] = []
        self.assertEqual((text.rules, text.size), ({"A": ((0, 1),)}, 1))

    def test_equality(self):
        text = Text(2, {"A": [("B", 1)], "B": [(0, 1)]}, "A")
        self.assertEqual(text, Text(2, {"B": (((0, 1)),), "A": [["B", 1]]}, "A"))
        self.assertNotEqual(text, Text(3, {"A": [("B", 1)], "B": [(0, 1)]}, "A"))
        self.assertNotEqual(text, Text(2, {"A": [("B", 1)], "B": [(0, 1)]}, "B"))
        self.assertNotEqual(text, Text(2, {"A": [(0, 1)], "B": [(0, 1)]}, "A"))
        self.assertFalse(text == (0,))

    def test_keys_in_any_order(self):
        rng = random.Random(30)
        for _ in range(50):
            text, row = random_text(rng, 3, rng.randint(2, 10))
            names = list(text.rules)
            rng.shuffle(names)
            other = Text(3, {name: text.rules[name] for name in names}, text.root)
            self.assertEqual(other, text)
            self.assertEqual(list(other.rules), names)
            self.assertEqual((listed(other), other.depth), (row, text.depth))
            # Equal calls on equal texts return equal texts.
            first = rng.randint(0, len(row))
            self.assertEqual(cut_out(other, first, len(row) - first), cut_out(text, first, len(row) - first))
            self.assertEqual(turned(other), turned(text))
            self.assertEqual(joined(other, text), joined(text, other))

    def test_empty_rules(self):
        text = Text(1, {"A": []}, "A")
        self.assertEqual((text.size, text.depth, text.tally(), text.part(0, 0), text.ahead(0)), (0, 1, (0,), (), (0,)))
        self.assertEqual(text.place_of(0, 0), None)
        self.assertEqual(raised(text.sign_of, 0), ("BadPlace", 0))
        nested = Text(2, {"A": [("B", 10 ** 30), ("C", 5), ("B", 1)], "B": [("D", 3)], "C": [(1, 1)], "D": []}, "A")
        self.assertEqual((nested.size, nested.depth, nested.part(0, 5)), (5, 3, (1,) * 5))

    def test_depth_counts_from_the_root_on(self):
        rules = {"A": [("B", 1), ("C", 1)], "B": [("C", 1)], "C": [(0, 1)], "D": [("A", 1)]}
        self.assertEqual([Text(1, rules, root).depth for root in "ABCD"], [3, 2, 1, 4])

    def test_bad_signs_and_rules_in_order(self):
        for value in NO_INTEGERS + [0, -1, 2001]:
            self.assertEqual(raised(Text, value, {}, None), ("BadSigns", value))
        self.assertEqual(raised(Text, 1, {}, None), ("TooMany", "rules", 0, 2000))
        many = {name_at(number): None for number in range(2001)}
        self.assertEqual(raised(Text, 1, many, None), ("TooMany", "rules", 2001, 2000))
        self.assertEqual(Text(2000, {"ABCDEFGH": [(1999, 1)]}, "ABCDEFGH").size, 1)

    def test_bad_rules(self):
        for name in NO_NAMES:
            self.assertEqual(raised(Text, 2, {"B": [("A", 1)], name: [], "A": [(7, 1)]}, "A"), ("BadRule", name)
                             if name != "A" else None)
        rows = [None, True, 7, "", "A", {}, {"A": 1}, [0], [(0,)], [(0, 1, 1)], [(2, 1)], [(-1, 1)], [(True, 1)],
                [(None, 1)], [("C", 1)], [("b", 1)], [([], 1)], [(0, 0)], [(0, -1)], [(0, 10 ** 30 + 1)], [(0, True)],
                [(0, None)], [(0, "1")], [(0, [1])], [(0, 1)] * 41, [(0, 1), 7], ["A1"], [{0: 1, 1: 1}]]
        for row in rows:
            rules = {"B": [(0, 1)], "A": row, "D": 7}
            self.assertEqual(raised(Text, 2, rules, None), ("BadRule", "A"))
        self.assertEqual(raised(Text, 2, {"A": [("A", 1)], "b": [], "C": [("b", 1)]}, "A"), ("BadRule", "b"))
        self.assertEqual(Text(2, {"A": [(0, 10 ** 30)] * 40}, "A").size, 40 * 10 ** 30)

    def test_rings(self):
        rules = {"C": [("B", 1)], "B": [(0, 1), ("C", 1)], "A": [("B", 1)], "D": [("D", 2)]}
        self.assertEqual(raised(Text, 2, rules, None), ("Ring", "B"))
        self.assertEqual(raised(Text, 2, {"B": [], "AA": [("AA", 1)], "C": [("C", 1)]}, 7), ("Ring", "AA"))
        long = {name_at(number): [(name_at((number + 1) % 1999), 1)] for number in range(1999)}
        self.assertEqual(raised(Text, 2, dict(long, ZZZZ=[]), "ZZZZ"), ("Ring", "A"))

    def test_no_rule(self):
        for value in NO_NAMES + [[], {}, ["A"], "B"]:
            self.assertEqual(raised(Text, 2, {"A": []}, value), ("NoRule", value))

    def test_errors_of_methods(self):
        text = Text(3, {"A": [(0, 2), (1, 1)]}, "A")
        for value in NO_INTEGERS + [-1, 3, 10 ** 39]:
            self.assertEqual(raised(text.sign_of, value), ("BadPlace", value))
        for value in NO_INTEGERS + [-1, 4]:
            self.assertEqual(raised(text.ahead, value), ("BadPlace", value))
        for value in NO_INTEGERS + [-1, 2001]:
            self.assertEqual(raised(text.part, "x", value), ("TooMany", "signs", value, 2000))
        for value in NO_INTEGERS + [-1, 2]:
            self.assertEqual(raised(text.part, value, 2), ("BadPlace", value))
        self.assertEqual(raised(text.part, 0, 4), ("BadPlace", 0))
        self.assertEqual((text.part(3, 0), text.part(1, 2)), ((), (0, 1)))
        for value in NO_INTEGERS + [-1, 3]:
            self.assertEqual(raised(text.place_of, value, "x"), ("BadSign", value))
        for value in NO_INTEGERS + [-1]:
            self.assertEqual(raised(text.place_of, 2, value), ("BadCount", value))
        self.assertIsNone(text.place_of(2, 10 ** 39))

    def test_great_counts(self):
        great = 10 ** 30
        text = Text(3, {"A": [("B", great), (2, great)], "B": [("C", great), (1, 1)], "C": [(0, great)]}, "A")
        self.assertEqual(text.tally(), (great ** 3, great, great))
        self.assertEqual(text.part(great ** 2 - 1, 3), (0, 1, 0))
        self.assertEqual(text.place_of(1, great - 1), great ** 3 + great - 1)
        self.assertEqual(text.place_of(0, great ** 2), great ** 2 + 1)
        self.assertEqual(text.ahead(great ** 2 + 1), (great ** 2, 1, 0))
        self.assertEqual(text.part(text.size - 2000, 2000), (2,) * 2000)

    def test_deep_names(self):
        began = time.time()
        text = chain(2000, 1)
        self.assertEqual((text.depth, text.size), (2000, 2000))
        self.assertEqual(text.part(0, 2000), (0,) + (1,) * 1999)
        great = chain(2000, 10 ** 30)
        self.assertEqual(great.depth, 2000)
        self.assertEqual(great.tally()[0], 10 ** (30 * 1999))
        self.assertEqual(great.part(great.size - 3, 3), (1, 1, 1))
        self.assertEqual(great.sign_of(0), 0)
        self.assertEqual(great.place_of(1, 0), 10 ** 30)
        self.assertEqual(great.ahead(10 ** 30 + 5), (10 ** 30 + 4, 1))
        last = great.place_of(0, great.tally()[0] - 1)
        self.assertEqual(great.part(last, 4), (0, 1, 1, 1))
        self.assertLess(time.time() - began, 30)

    def test_parts_do_not_go_down_for_nothing(self):
        told = {name_at(number): [("ZZZZ", 1)] * 39 + [(name_at(number + 1), 1)] for number in range(1000)}
        told[name_at(1000)] = [(0, 1)]
        told["ZZZZ"] = []
        told["ZZZ"] = [("A", 10 ** 30)]
        text = Text(1, told, "ZZZ")
        began = time.time()
        self.assertEqual(text.part(10 ** 29, 2000), (0,) * 2000)
        self.assertLess(time.time() - began, 5)
