"""Promise 63: vaults."""

import random
import time
import unittest

from tests.helpers import NO_INTEGERS, listed, raised, told_otherwise
from tests.hoards import GREAT, PARITY, great_vault, random_vault
from tests.test_guards import sum_told
from wordvault.codes import Code, is_least
from wordvault.dictionaries import Dictionary
from wordvault.guards import Guard, remainder
from wordvault.listed import told_by_rules
from wordvault.names import name_at
from wordvault.sheets import Sheet
from wordvault.texts import Text
from wordvault.vaults import Vault, letters_text, same_vaults, sheet_of, vault_of

SMALL = Dictionary("ab", ["a", "b", "ba"])


class VaultsTest(unittest.TestCase):
    def check(self, vault, row):
        self.assertEqual(vault.size, len(row))
        self.assertEqual([vault.word_at(place) for place in range(len(row))], row)
        for place in range(len(row) + 1):
            self.assertEqual(vault.words_from(place, len(row) - place), tuple(row[place:]))
        for word in vault.dictionary.words:
            self.assertEqual(vault.many_of(word), row.count(word))
            places = [place for place, other in enumerate(row) if other == word]
            self.assertEqual([vault.place_of(word, count) for count in range(len(places) + 1)], places + [None])
        bits = "".join(vault.code.words[vault.dictionary.number_of(word)] for word in row)
        self.assertEqual((vault.coded.size, vault.coded.code, vault.coded.text), (len(bits), vault.code, vault.text))
        blocks = [bits[first:first + vault.block] for first in range(0, len(bits), vault.block)]
        sums = [sum_told(vault.guard, [(int(bit),) for bit in block]) for block in blocks]
        self.assertEqual([vault.sum_at(index) for index in range(len(blocks))], sums)
        sheet = sheet_of(vault)
        self.assertIsInstance(sheet, Sheet)
        self.assertEqual((sheet.guard, listed(sheet.bits), sheet.block, sheet.many),
                         (vault.guard, [int(bit) for bit in bits], vault.block, len(blocks)))
        for value in NO_INTEGERS + [-1, len(blocks)]:
            self.assertEqual(raised(vault.sum_at, value), ("BadPlace", value))

    def test_held_against_lists(self):
        rng = random.Random(181)
        for _ in range(80):
            self.check(*random_vault(rng))

    def test_errors_of_vaults_in_order(self):
        wide = Guard(2, [[1]], [[1, 0]], [0], [0])
        three, two = Text(3, {"A": []}, "A"), Text(2, {"A": []}, "A")
        for many in (0, 1):
            self.assertEqual(raised(Vault, Dictionary("ab", ["a"][:many]), two, Code([1, 1]), wide, "x"),
                             ("TooMany", "signs", many, 2000))
        self.assertEqual(raised(Vault, SMALL, two, Code([1, 2, 2]), wide, "x"), ("OtherSigns",))
        self.assertEqual(raised(Vault, SMALL, three, Code([1, 1]), wide, "x"), ("OtherSigns",))
        self.assertEqual(raised(Vault, SMALL, three, Code([1, 2, 2]), wide, "x"), ("BadWidth", 2))
        for value in NO_INTEGERS + [0, -1, GREAT + 1]:
            self.assertEqual(raised(Vault, SMALL, three, Code([1, 2, 2]), PARITY, value), ("BadBlock", value))
        vault = Vault(SMALL, three, Code([1, 2, 2]), PARITY, GREAT)
        self.assertEqual((vault.dictionary, vault.text, vault.code, vault.guard, vault.block, vault.size),
                         (SMALL, three, Code([1, 2, 2]), PARITY, GREAT, 0))
        self.assertEqual(raised(vault.sum_at, 0), ("BadPlace", 0))

    def test_errors_of_methods_in_order(self):
        vault = vault_of("ab", ["a", "b", "a", "a", "ba"], PARITY, 2)
        for value in NO_INTEGERS + [-1, 5, GREAT]:
            self.assertEqual(raised(vault.word_at, value), ("BadPlace", value))
        for value in NO_INTEGERS + [-1, 2001]:
            self.assertEqual(raised(vault.words_from, "x", value), ("TooMany", "words", value, 2000))
        for value in NO_INTEGERS + [-1, 4, GREAT]:
            self.assertEqual(raised(vault.words_from, value, 2), ("BadPlace", value))
        for value in NO_INTEGERS + [0, "bb", "c"]:
            if value != "a":
                self.assertEqual(raised(vault.many_of, value), ("NoWord", value))
                self.assertEqual(raised(vault.place_of, value, "x"), ("NoWord", value))
        for value in NO_INTEGERS + [-1]:
            self.assertEqual(raised(vault.place_of, "a", value), ("BadCount", value))
        self.assertIsNone(vault.place_of("a", GREAT))

    def test_great_vaults(self):
        began = time.time()
        vault = great_vault(SMALL, {"A": [(["B"], GREAT), ("a", 1)], "B": [("ba", 2), ("b", 1)]}, "A", Code([2, 1, 2]),
                            remainder(3, 3), GREAT)
        self.assertEqual((vault.size, vault.coded.size), (3 * GREAT + 1, 5 * GREAT + 2))
        self.assertEqual(vault.words_from(3 * GREAT - 2, 3), ("ba", "b", "a"))
        self.assertEqual([vault.many_of(word) for word in SMALL.words], [1, GREAT, 2 * GREAT])
        self.assertEqual([vault.place_of("ba", 10 ** 20), vault.place_of("a", 0)], [3 * 10 ** 20 // 2, 3 * GREAT])
        self.assertEqual(sheet_of(vault).many, 6)
        self.assertEqual(vault.sum_at(5), vault.guard.sum_of([(int(bit),) for bit in vault.code.words[0]]))
        self.assertLess(time.time() - began, 10)


class VaultOfTest(unittest.TestCase):
    def test_words(self):
        rng = random.Random(182)
        for _ in range(60):
            words = [rng.choice(["", "a", "b", "ab", "ba"]) for _ in range(rng.randint(2, 30))]
            if len(set(words)) < 2:
                continue
            vault = vault_of("ba", words, PARITY, 3)
            self.assertEqual(vault.dictionary, Dictionary("ba", list(set(words))))
            self.assertEqual(list(vault.words_from(0, len(words))), words)
            numbers = [vault.dictionary.number_of(word) for word in words]
            self.assertEqual(vault.text, told_by_rules(vault.dictionary.many, numbers))
            self.assertTrue(is_least(vault.code, vault.text.tally()))
            self.assertEqual(vault.code, Code(vault.code.lengths))
            self.assertEqual((vault.guard, vault.block), (PARITY, 3))

    def test_errors_in_order(self):
        wide = Guard(2, [[1]], [[1, 0]], [0], [0])
        self.assertEqual(raised(vault_of, "x", [7] * 2001, wide, "x"), ("TooMany", "words", 2001, 2000))
        for value in NO_INTEGERS + [7, "a", "aa", "aB"]:
            self.assertEqual(raised(vault_of, value, [7], wide, "x"), ("BadLetters", value))
        for value in NO_INTEGERS + [7, "c", "a" * 201, ["a"]]:
            if value not in ("", "a"):
                self.assertEqual(raised(vault_of, "ab", ["a", value, 7], wide, "x"), ("BadWord", 1))
        self.assertEqual(raised(vault_of, "ab", [], wide, "x"), ("TooMany", "signs", 0, 2000))
        self.assertEqual(raised(vault_of, "ab", ["a"] * 5, wide, "x"), ("TooMany", "signs", 1, 2000))
        self.assertEqual(raised(vault_of, "ab", ["a", "b"], wide, "x"), ("BadWidth", 2))
        for value in NO_INTEGERS + [0, GREAT + 1]:
            self.assertEqual(raised(vault_of, "ab", ["a", "b"], PARITY, value), ("BadBlock", value))
        words = [format(number, "011b").replace("0", "a").replace("1", "b") for number in range(2000)]
        self.assertEqual(vault_of("ab", words, PARITY, 1).dictionary.many, 2000)


class SameVaultsTest(unittest.TestCase):
    def test_told_in_unlike_ways(self):
        rng = random.Random(183)
        for _ in range(60):
            vault, row = random_vault(rng)
            numbers = [vault.dictionary.number_of(word) for word in row]
            text = told_otherwise(rng, vault.text.signs, numbers)
            other = Vault(vault.dictionary, text, vault.code, vault.guard, vault.block)
            self.assertIs(same_vaults(vault, other), True)
            longer = Vault(vault.dictionary, told_otherwise(rng, vault.text.signs, numbers + [0]), vault.code, vault.guard, vault.block)
            self.assertIs(same_vaults(vault, longer), False)

    def test_each_part(self):
        text = Text(3, {"A": [(2, 2), (0, 1)]}, "A")
        told = [SMALL, text, Code([1, 2, 2]), PARITY, 2]
        self.assertTrue(same_vaults(Vault(*told), Vault(*told)))
        for at, other in enumerate([Dictionary("ba", SMALL.words), Text(3, {"A": [(2, 1), (0, 1)]}, "A"),
                                    Code([1, 2, 2], ["1", "01", "00"]), remainder(2, 1), 3]):
            bent = list(told)
            bent[at] = other
            self.assertFalse(same_vaults(Vault(*told), Vault(*bent)))


class LettersTextTest(unittest.TestCase):
    def test_held_against_lists(self):
        rng = random.Random(184)
        for _ in range(60):
            vault, row = random_vault(rng)
            letters = vault.dictionary.letters
            told = letters_text(vault)
            self.assertEqual(told.signs, len(letters) + 1)
            self.assertEqual(listed(told), [sign for word in row for sign in [letters.index(one) for one in word] + [len(letters)]])
            told = letters_text(vault, blanks=False)
            self.assertEqual((told.signs, listed(told)), (len(letters) + 1, [letters.index(one) for word in row for one in word]))
            self.assertEqual(letters_text(vault, blanks=True), letters_text(vault))
        with self.assertRaises(TypeError):
            letters_text(vault, False)

    def test_order_of_letters(self):
        vault = vault_of("zya", ["az", "", "y"], PARITY, 1)
        self.assertEqual(listed(letters_text(vault)), [2, 0, 3, 3, 1, 3])
        self.assertEqual(listed(letters_text(vault, blanks=False)), [2, 0, 1])

    def test_no_more_rules_than_may_be(self):
        # 500 rules, and words of 1,000 letters together: no error may be raised.
        letters = "abcdefghijklmnopqrstuvwxyz"
        words = [one for one in letters] + [one + other for one in letters for other in letters][:487]
        self.assertEqual(sum(map(len, words)), 1000)
        dictionary = Dictionary(letters, words)
        rules = {name_at(number): [(number % 513, 2), ((number * 7) % 513, 1)] for number in range(486)}
        names = list(rules)
        for at in range(13):
            rules[name_at(1000 + at)] = [(name, 2) for name in names[at * 40:at * 40 + 40]] + ([(512, 1)] if at == 12 else [])
        rules["ZZZ"] = [(name_at(1000 + at), GREAT) for at in range(13)]
        self.assertEqual(len(rules), 500)
        text = Text(513, rules, "ZZZ")
        vault = Vault(dictionary, text, Code([9] * 511 + [10, 10]), PARITY, 3)
        for blanks in (True, False):
            told = letters_text(vault, blanks=blanks)
            size = sum(count * (len(word) + blanks) for count, word in zip(text.tally(), dictionary.words))
            self.assertEqual(told.size, size)
        long = ["ab" * 100, "b" * 200, "a" * 199, "ba" * 100, "a" + "b" * 199]
        self.assertEqual(letters_text(vault_of("ab", long, PARITY, 1)).size, sum(map(len, long)) + 5)


if __name__ == "__main__":
    unittest.main()
