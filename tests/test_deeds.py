"""Promises 64 and 65: deeds, and where two vaults part."""

import random
import time
import unittest

from tests.coders import cost_told, least_told
from tests.helpers import NO_INTEGERS, raised
from tests.hoards import (GREAT, PARITY, Hoard, great_vault, ordered, random_dictionary, random_vault, random_word,
                          words_of)
from tests.test_guards import random_guard, sum_told
from tests.test_texts import chain
from wordvault.codes import Code, is_least
from wordvault.deeds import (coded_anew, joined_vaults, put_amid, replaced, said_ahead, said_behind, taken_from, word_put,
                             word_struck)
from wordvault.dictionaries import Dictionary
from wordvault.guards import Guard, remainder
from wordvault.names import name_at
from wordvault.pairs import parted_bits, parted_sums, parted_words
from wordvault.texts import Text
from wordvault.vaults import Vault, same_vaults, vault_of

SMALL = Dictionary("ab", ["a", "b", "ba"])
NO_WORDS = [value for value in NO_INTEGERS if value not in ("", "a")] + [0, "c", "bb"]


class DeedsTest(unittest.TestCase):
    def check(self, vault, row, ahead, words=None, bits=None):
        self.assertIsInstance(vault, Vault)
        self.assertEqual(words_of(vault), list(row))
        self.assertEqual(vault.dictionary.words, ahead.dictionary.words if words is None else tuple(words))
        self.assertEqual(vault.code.words, ahead.code.words if bits is None else tuple(bits))
        self.assertEqual((vault.guard, vault.block, vault.dictionary.letters), (ahead.guard, ahead.block, ahead.dictionary.letters))

    def test_texts_held_against_lists(self):
        rng = random.Random(191)
        for _ in range(120):
            vault, row = random_vault(rng)
            before = words_of(vault)
            said = [rng.choice(vault.dictionary.words) for _ in range(rng.choice([0, 1, 2, 5, 50]))]
            self.check(said_behind(vault, said), row + said, vault)
            self.check(said_ahead(vault, tuple(said)), said + row, vault)
            for place in {0, len(row), rng.randint(0, len(row))}:
                self.check(put_amid(vault, place, said), row[:place] + said + row[place:], vault)
                many = rng.choice([0, len(row) - place, rng.randint(0, len(row) - place)])
                self.check(taken_from(vault, place, many), row[:place] + row[place + many:], vault)
            word, few = rng.choice(vault.dictionary.words), said[:20]
            told = [one for other in row for one in (few if other == word else [other])]
            self.check(replaced(vault, word, few), told, vault)
            self.check(replaced(vault, word, []), [other for other in row if other != word], vault)
            anew = coded_anew(vault)
            self.check(anew, row, vault, None, anew.code.words)
            self.assertEqual(anew.code, Code(anew.code.lengths))
            self.assertEqual(cost_told(anew.code.lengths, vault.text.tally()), least_told(vault.text.tally()))
            self.assertEqual(words_of(vault), before)

    def test_words_put_and_struck(self):
        rng = random.Random(192)
        for _ in range(80):
            vault, row = random_vault(rng)
            hoard = Hoard(vault, row)
            word = random_word(rng, "ab", 4)
            if word in vault.dictionary.words:
                self.assertEqual(raised(word_put, vault, word), ("OldWord", word))
                continue
            hoard.put(word)
            more = word_put(vault, word)
            self.check(more, row, vault, hoard.words, hoard.bits)
            self.assertTrue(same_vaults(word_struck(more, word), vault))
            for gone in hoard.words:
                if gone not in row and len(hoard.words) > 2:
                    left = Hoard(more, row)
                    left.strike(gone)
                    self.check(word_struck(more, gone), row, vault, left.words, left.bits)
                elif gone in row:
                    self.assertEqual(raised(word_struck, more, gone), ("UsedWord", gone, row.count(gone)))

    def test_joined_vaults(self):
        rng = random.Random(193)
        for _ in range(80):
            vault, row = random_vault(rng)
            other, other_row = random_vault(rng)
            hoard = Hoard(vault, row)
            # The words that are new are put in by the rule, in their order.
            for word in ordered(vault.dictionary, set(other.dictionary.words) - set(vault.dictionary.words)):
                hoard.put(word)
            self.check(joined_vaults(vault, other), row + other_row, vault, hoard.words, hoard.bits)

    def test_errors_in_order(self):
        vault = vault_of("ab", ["a", "b", "a", "a", "ba"], PARITY, 2)
        for call in (lambda words: said_behind(vault, words), lambda words: said_ahead(vault, words),
                     lambda words: put_amid(vault, 5, words)):
            self.assertEqual(raised(call, ["x"] * 2001), ("TooMany", "words", 2001, 2000))
            self.assertIsNone(raised(call, ["a"] * 2000))
            for value in NO_WORDS:
                self.assertEqual(raised(call, ["a", value, None]), ("NoWord", value))
        for value in NO_INTEGERS + [-1, 6, GREAT]:
            self.assertEqual(raised(put_amid, vault, value, ["x"] * 2001), ("BadPlace", value))
            self.assertEqual(raised(taken_from, vault, value, "x"), ("BadPlace", value))
        for value in NO_INTEGERS + [-1, 4, GREAT]:
            self.assertEqual(raised(taken_from, vault, 2, value), ("BadSize", value))
        for value in NO_WORDS:
            self.assertEqual(raised(replaced, vault, value, ["x"] * 21), ("NoWord", value))
            self.assertEqual(raised(replaced, vault, "a", ["a", value, 7]), ("NoWord", value))
            self.assertEqual(raised(word_struck, vault, value), ("NoWord", value))
        self.assertEqual(raised(replaced, vault, "a", ["x"] * 21), ("TooMany", "words", 21, 20))
        self.assertEqual(replaced(vault, "a", ["a"] * 20).size, 62)
        for value in [value for value in NO_INTEGERS if value not in ("", "a")] + [7, "c", "a" * 201]:
            self.assertEqual(raised(word_put, vault, value), ("NotWord", value))
        self.assertEqual(raised(word_put, vault, "ba"), ("OldWord", "ba"))
        self.assertEqual(raised(word_struck, vault, "a"), ("UsedWord", "a", 3))
        two = vault_of("ab", ["a", "b"], PARITY, 2)
        self.assertEqual(raised(word_struck, two, "a"), ("UsedWord", "a", 1))
        self.assertEqual(raised(word_struck, taken_from(two, 0, 1), "a"), ("TooMany", "signs", 1, 2000))
        self.assertEqual(raised(joined_vaults, vault, vault_of("ba", ["a", "b"], PARITY, 2)), ("OtherLetters",))
        words = [format(number, "011b").replace("0", "a").replace("1", "b") for number in range(2000)]
        great = vault_of("ab", words, PARITY, 1)
        self.assertEqual(raised(word_put, great, "a"), ("TooMany", "words", 2001, 2000))
        self.assertEqual(raised(joined_vaults, great, two), ("TooMany", "words", 2002, 2000))

    def test_great_vaults(self):
        began = time.time()
        vault = great_vault(SMALL, {"A": [(["B"], GREAT), ("a", 1)], "B": [("ba", 2), ("b", 1)]}, "A", Code([2, 1, 2]))
        told = put_amid(vault, 10 ** 20, ["a", "a"])
        self.assertEqual((told.size, told.words_from(10 ** 20 - 1, 4)), (3 * GREAT + 3, ("ba", "a", "a", "ba")))
        self.assertTrue(same_vaults(taken_from(told, 10 ** 20, 2), vault))
        told = replaced(vault, "ba", ["b", "ba", "ba"])
        self.assertEqual((told.size, told.many_of("ba"), told.words_from(0, 7)),
                         (7 * GREAT + 1, 4 * GREAT, ("b", "ba", "ba", "b", "ba", "ba", "b")))
        more = word_put(vault, "")
        self.assertEqual((more.size, more.dictionary.words, more.text.tally()), (vault.size, ("", "a", "b", "ba"), (0, 1, GREAT, 2 * GREAT)))
        # "a" has the least count: it is parted.
        self.assertEqual(more.code.words, ("101", "100", "0", "11"))
        self.assertEqual(joined_vaults(vault, more).size, 2 * vault.size)
        self.assertTrue(is_least(coded_anew(told).code, told.text.tally()))
        self.assertLess(time.time() - began, 20)

    def test_no_more_rules_than_may_be(self):
        # 500 rules, each of 40 pairs, and within one another: no error may be raised.
        began = time.time()
        rules = {}
        for number in range(500):
            below = name_at(number + 1)
            amid = [(number % 3, GREAT), (2 - number % 3, 1)] * 19
            rules[name_at(number)] = [(below, 5)] + amid + [(below, 7)] if number < 499 else [(0, 1)] * 40
        text = Text(3, rules, "A")
        vault = Vault(SMALL, text, Code([1, 2, 2]), PARITY, 3)
        size = text.size
        told = taken_from(vault, size // 7, size // 3)
        self.assertEqual((told.size, told.words_from(size // 7 - 1, 1)), (size - size // 3, vault.words_from(size // 7 - 1, 1)))
        told = put_amid(vault, size // 2, ["a", "b", "ba"] * 666)
        self.assertEqual((told.size, told.words_from(size // 2 + 1, 3)), (size + 1998, ("b", "ba", "a")))
        for call in (said_behind, said_ahead):
            self.assertEqual(call(vault, ["ba"] * 2000).size, size + 2000)
        half = Vault(SMALL, chain_of_three(250), Code([1, 2, 2]), PARITY, 3)
        self.assertEqual(joined_vaults(half, half).size, 2 * half.size)
        self.assertEqual(replaced(vault, "a", ["b"] * 20).size, size + 19 * text.tally()[0])
        self.assertLess(time.time() - began, 60)

    def test_many_deeds(self):
        # A vault does not grow deeper and deeper by words that are said behind.
        vault = vault_of("ab", ["a", "b"], PARITY, 2)
        for number in range(300):
            vault = said_behind(vault, ["a", "b", "b"][:number % 3 + 1])
        self.assertLess(len(vault.text.rules), 60)
        self.assertLess(vault.text.depth, 30)


def chain_of_three(many):
    text = chain(many, GREAT)
    return Text(3, text.rules, text.root)


class PairsTest(unittest.TestCase):
    def least_apart(self, one, other):
        for place in range(max(len(one), len(other)) + 1):
            if one[place:place + 1] != other[place:place + 1]:
                return place
        return None

    def test_held_against_lists(self):
        rng = random.Random(194)
        seen = {}
        for number in range(150):
            guard = random_guard(rng, rng.choice([2, 3]), rng.randint(1, 2), 1)
            vaults, rows = [], []
            for _ in range(2):
                vault, row = random_vault(rng, random_dictionary(rng, 2, 4))
                if rows and number % 2:
                    kept = [word for word in rows[0] if word in vault.dictionary.words]
                    row = kept + row[:number % 3]
                    vault = said_behind(taken_from(vault, 0, vault.size), row)
                vaults.append(Vault(vault.dictionary, vault.text, vault.code, guard, rng.choice([1, 2, 3])))
                rows.append(row)
            one, other = vaults
            self.assertEqual(parted_words(one, other), self.least_apart(*rows))
            bits = ["".join(vault.code.words[vault.dictionary.number_of(word)] for word in row) for vault, row in zip(vaults, rows)]
            self.assertEqual(parted_bits(one, other), self.least_apart(*bits))
            sums = [[sum_told(guard, [(int(bit),) for bit in told[first:first + vault.block]])
                     for first in range(0, len(told), vault.block)] for vault, told in zip(vaults, bits)]
            self.assertEqual(parted_sums(one, other), self.least_apart(*sums))
            seen[parted_words(one, other) is None] = True
        self.assertEqual(len(seen), 2)

    def test_ends_and_unlike_dictionaries(self):
        one = vault_of("ab", ["b", "a", "b"], PARITY, 2)
        other = vault_of("ab", ["b", "a", "b", ""], PARITY, 2)
        self.assertEqual((parted_words(one, other), parted_words(other, one), parted_words(one, one)), (3, 3, None))
        self.assertEqual(raised(parted_words, one, vault_of("ba", ["a", "b"], PARITY, 2)), ("OtherLetters",))
        words = [format(number, "011b").replace("0", "a").replace("1", "b") for number in range(1999)]
        self.assertEqual(raised(parted_words, one, vault_of("ab", words, PARITY, 1)), ("TooMany", "words", 2001, 2000))
        self.assertEqual(parted_bits(one, vault_of("ba", ["a", "b", "a"], PARITY, 5)), None)

    def test_other_guards(self):
        def with_guard(guard, block=2):
            return Vault(SMALL, Text(3, {"A": [(1, 3)]}, "A"), Code([1, 2, 2]), guard, block)

        two = Guard(2, [[1, 0], [0, 1]], [[1], [1]], [0, 0], [0, 0])
        three = Guard(3, [[1]], [[1]], [0], [0])
        self.assertEqual(raised(parted_sums, with_guard(PARITY), with_guard(two)), ("OtherGuard",))
        self.assertEqual(raised(parted_sums, with_guard(three), with_guard(PARITY)), ("OtherGuard",))
        self.assertEqual(parted_sums(with_guard(remainder(2, 1)), with_guard(two)), 0)
        great = with_guard(PARITY, 513)
        self.assertEqual(raised(parted_sums, great, with_guard(PARITY)), ("TooMany", "bits", 513, 512))
        self.assertEqual(raised(parted_sums, with_guard(PARITY), great), ("TooMany", "bits", 513, 512))
        self.assertEqual(raised(parted_sums, great, with_guard(three)), ("OtherGuard",))
        wide = with_guard(remainder(16, 1))
        self.assertEqual(raised(parted_sums, wide, wide), ("TooMany", "sums", 65536, 2000))

    def test_great_vaults(self):
        began = time.time()
        one = great_vault(SMALL, {"A": [(["B"], GREAT), ("a", 1)], "B": [("ba", 1), ("b", 1)]}, "A", Code([2, 1, 2]))
        other = great_vault(SMALL, {"A": [("ba", 1), (["B"], GREAT - 1), ("b", 1), ("a", 1)], "B": [("b", 1), ("ba", 1)]}, "A",
                            Code([2, 1, 2]))
        self.assertEqual((parted_words(one, other), parted_bits(one, other), parted_sums(one, other)), (None, None, None))
        third = said_behind(other, ["a"])
        self.assertEqual((parted_words(one, third), parted_bits(one, third)), (one.size, one.coded.size))
        bent = put_amid(taken_from(one, GREAT, 1), GREAT, ["b"])
        self.assertEqual(parted_words(one, bent), GREAT)
        self.assertEqual(parted_words(one, word_put(bent, "")), GREAT)
        self.assertLess(time.time() - began, 30)


if __name__ == "__main__":
    unittest.main()
