"""Promise 46: the bits of a text in a code."""

import random
import time
import unittest

from tests.coders import comb, random_code
from tests.helpers import NO_INTEGERS, listed, raised, random_text
from tests.test_texts import chain
from wordvault.coded import Coded
from wordvault.codes import Code
from wordvault.names import name_at
from wordvault.texts import Text

GREAT = 10 ** 30


def pairs_of(text):
    return sum(len(row) for row in text.rules.values())


class CodedTest(unittest.TestCase):
    def check(self, coded, row):
        words = [coded.code.words[sign] for sign in row]
        bits = "".join(words)
        self.assertEqual(coded.size, len(bits))
        begins = [len("".join(words[:index])) for index in range(len(row) + 1)]
        self.assertEqual([coded.begin_of(index) for index in range(len(row) + 1)], begins)
        self.assertEqual([coded.bit_at(place) for place in range(len(bits))], list(bits))
        told = [(index, number) for index, word in enumerate(words) for number in range(len(word))]
        self.assertEqual([coded.sign_at(place) for place in range(len(bits))], told)
        text = coded.bits_text()
        self.assertEqual((text.signs, listed(text)), (2, [int(bit) for bit in bits]))
        self.check_rules(coded, text, row)
        return bits

    def check_rules(self, coded, text, row):
        come = sum(coded.code.lengths[sign] for sign in set(row))
        self.assertLessEqual(pairs_of(text), pairs_of(coded.text) + 2 * come + 1)
        self.assertLessEqual(len(text.rules), len(coded.text.rules)
                             + sum(-(-coded.code.lengths[sign] // 20) for sign in set(row)) + 10)

    def test_held_against_lists(self):
        rng = random.Random(81)
        for _ in range(80):
            code = random_code(rng, rng.randint(2, 6))
            text, row = random_text(rng, code.size, rng.randint(1, 8), 60)
            coded = Coded(code, text)
            self.assertEqual((coded.code, coded.text), (code, text))
            bits = self.check(coded, row)
            for _ in range(20):
                many = rng.randint(0, len(bits))
                place = rng.randint(0, len(bits) - many)
                self.assertEqual(coded.bits_part(place, many), bits[place:place + many])

    def test_no_signs(self):
        coded = Coded(Code([1, 1]), Text(2, {"A": [("B", 5)], "B": []}, "A"))
        self.check(coded, [])
        self.assertEqual((coded.size, coded.bits_part(0, 0), coded.begin_of(0)), (0, "", 0))

    def test_long_words(self):
        code = comb(2000)
        row = [1999, 0, 1998, 39, 40, 41, 79, 80, 81, 0]
        coded = Coded(code, Text(2000, {"A": [(sign, 1) for sign in row]}, "A"))
        text = coded.bits_text()
        self.assertEqual(text.size, coded.size)
        self.check_rules(coded, text, row)
        self.assertEqual(coded.bits_part(1990, 20), "1" * 9 + "0" + "1" * 10)
        self.assertEqual(coded.bits_part(0, 2000), "1" * 1999 + "0")
        # The same along 1010..: so hardly any two bits side by side are one run.
        spine = "10" * 1000
        words = [spine[:place] + ("0" if spine[place] == "1" else "1") for place in range(1999)] + [spine[:1999]]
        odd = Code([len(word) for word in words], words)
        for sign in (1999, 1998, 39, 40, 60, 3):
            coded = Coded(odd, Text(2000, {"A": [(sign, 3)]}, "A"))
            text = coded.bits_text()
            self.check_rules(coded, text, [sign])
            self.assertEqual("".join(str(bit) for bit in text.part(0, odd.lengths[sign])), odd.words[sign])

    def test_most_rules(self):
        # 1,990 rules and words together: no error may be raised.
        signs = 600
        rules = {name_at(number): [(number % signs, 2), (number % 7, 1)] for number in range(1340)}
        names = list(rules)
        for at in range(34):
            rules[name_at(5000 + at)] = [(name, 1) for name in names[at * 40:at * 40 + 40]]
        rules["ZZZZ"] = [(name_at(5000 + at), 1) for at in range(34)]
        text = Text(signs, rules, "ZZZZ")
        code = Code([9] * 424 + [10] * 176)
        self.assertLessEqual(len(text.rules) + signs, 1990)
        coded = Coded(code, text)
        self.assertEqual(coded.bits_text().size, coded.size)

    def test_great_texts(self):
        began = time.time()
        code = Code([2, 1, 3, 3])
        text = Text(4, {"A": [("B", GREAT), (2, 1)], "B": [(0, GREAT), (3, 1), ("C", 2)], "C": [(1, GREAT)]}, "A")
        coded = Coded(code, text)
        unit = 2 * GREAT + 3 + 2 * GREAT
        self.assertEqual(coded.size, GREAT * unit + 3)
        self.assertEqual(coded.bits_text().size, coded.size)
        for index in (0, 1, GREAT, GREAT + 1, 3 * GREAT + 1, 10 ** 50, text.size - 1):
            place = coded.begin_of(index)
            self.assertEqual(coded.sign_at(place), (index, 0))
            word = code.words[text.sign_of(index)]
            self.assertEqual(coded.bits_part(place, len(word)), word)
            self.assertEqual("".join(map(str, coded.bits_text().part(place, len(word)))), word)
        self.assertEqual((coded.begin_of(text.size), coded.sign_at(coded.size - 1)), (coded.size, (text.size - 1, 2)))
        deep = Coded(Code([1, 1]), chain(2000, GREAT))
        self.assertEqual((deep.size, deep.begin_of(10 ** 100)), (deep.text.size, 10 ** 100))
        self.assertEqual(deep.bits_text().size, deep.size)
        self.assertLess(time.time() - began, 30)

    def test_errors_in_order(self):
        code = Code([1, 2, 2])
        self.assertEqual(raised(Coded, code, Text(2, {"A": []}, "A")), ("OtherSigns",))
        self.assertEqual(raised(Coded, code, Text(4, {"A": []}, "A")), ("OtherSigns",))
        coded = Coded(code, Text(3, {"A": [(1, 2), (0, 1)]}, "A"))
        for value in NO_INTEGERS + [-1, 5, GREAT]:
            for call in (coded.bit_at, coded.sign_at):
                self.assertEqual(raised(call, value), ("BadPlace", value))
        for value in NO_INTEGERS + [-1, 4, GREAT]:
            self.assertEqual(raised(coded.begin_of, value), ("BadPlace", value))
            self.assertEqual(raised(coded.bits_part, value, 2), ("BadPlace", value))
        for value in NO_INTEGERS + [-1, 2001]:
            self.assertEqual(raised(coded.bits_part, "x", value), ("TooMany", "bits", value, 2000))
        self.assertEqual(raised(coded.bits_part, 0, 6), ("BadPlace", 0))


if __name__ == "__main__":
    unittest.main()
