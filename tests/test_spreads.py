"""Promises 17, 18 and 19: in how many ranges words that fit can lie."""

import random
import time
import unittest

from tests.helpers import NO_INTEGERS, raised, words_up_to
from tests.test_patterns import random_shape
from wordvault.dictionaries import Dictionary
from wordvault.patterns import Pattern
from wordvault.spreads import most_ranges, spread_words


def most_turns(pattern, letters, most):
    """The greatest number of ranges over all dictionaries of words of at most so many letters."""
    words = sorted(words_up_to(letters, most), key=lambda word: [letters.index(letter) for letter in word])
    ranges, inside = 0, False
    for word in words:
        kind = pattern.fits_word(word)
        if kind and not inside:
            ranges += 1
        inside = kind
    return ranges


class SpreadsTest(unittest.TestCase):
    def check_words(self, pattern, many):
        words = spread_words(pattern, many)
        self.assertEqual(len(words), 2 * many - 1)
        places = [[pattern.letters.index(letter) for letter in word] for word in words]
        self.assertTrue(all(one < two for one, two in zip(places, places[1:])))
        self.assertEqual([pattern.fits_word(word) for word in words], [at % 2 == 0 for at in range(len(words))])
        self.assertTrue(all(len(word) <= 100000 for word in words))
        return words

    def test_held_against_all_dictionaries_of_short_words(self):
        rng = random.Random(10)
        kinds = {"none": 0, "some": 0}
        for letters in ("ab", "ba", "cab"):
            for _ in range(120):
                pattern = Pattern(letters, random_shape(rng, letters, 2))
                told = most_ranges(pattern)
                longest = 9 if len(letters) == 2 else 6
                short = most_turns(pattern, letters, longest)
                if told is None:
                    kinds["none"] += 1
                    self.assertGreater(short, most_turns(pattern, letters, longest - 4))
                    self.check_words(pattern, rng.randint(1, 20))
                    self.check_words(pattern, 20)
                else:
                    kinds["some"] += 1
                    self.assertEqual(told, short)
                    for many in range(1, min(told, 20) + 1):
                        self.check_words(pattern, many)
                    if told < 20:
                        self.assertIsNone(spread_words(pattern, told + 1))
        self.assertGreater(min(kinds.values()), 30)

    def test_a_dictionary_has_so_many_ranges(self):
        pattern = Pattern("ba", ("row", ("*", "a", "?")))
        words = self.check_words(pattern, 12)
        self.assertEqual(len(pattern.ranges_in(Dictionary("ba", words))), 12)

    def test_as_many_ranges_as_words(self):
        letters = "abcdefghijklmnopqrstuvwxyz"
        told = Pattern(letters, ("row", ("?",) * 40))
        self.assertEqual(most_ranges(told), 26 ** 40)
        self.check_words(told, 20)
        self.assertEqual(most_ranges(Pattern(letters, ("row", ("?",) * 30 + ("ac",)))), 2 * 26 ** 30)
        self.assertEqual(most_ranges(Pattern(letters, ("not", ("row", ("?",) * 3)))), 26 ** 3 + 1)

    def test_edges(self):
        every, none = Pattern("ab", ("both",)), Pattern("ab", ("either",))
        self.assertEqual([most_ranges(every), most_ranges(none)], [1, 0])
        self.assertEqual([len(spread_words(every, 1)), spread_words(every, 2), spread_words(none, 1)], [1, None, None])
        self.assertEqual(most_ranges(Pattern("ab", ("row", ()))), 1)
        self.assertEqual(most_ranges(Pattern("ab", ("not", ("row", ())))), 1)
        for value in NO_INTEGERS + [0, -1, 21]:
            self.assertEqual(raised(spread_words, every, value), ("BadMany", value))

    def test_lists_are_new(self):
        told = Pattern("ab", ("row", ("*", "b")))
        spread_words(told, 2).append("x")
        self.assertEqual(len(spread_words(told, 2)), 3)

    def test_rings_without_greatest_number(self):
        # One letter stays in the ring, but kinds ahead of it and behind it change along the ring.
        alternating = ("not", ("either", ("row", ("*", "a", "a", "*")), ("row", ("*", "b", "b", "*"))))
        pattern = Pattern("ab", ("both", alternating, ("row", ("a", "*"))))
        self.assertEqual(most_ranges(pattern), 1 if most_turns(pattern, "ab", 8) == 1 else None)
        ends = Pattern("ab", ("both", alternating, ("row", ("*", "b"))))
        self.assertIsNone(most_ranges(ends))
        self.check_words(ends, 20)

    def test_long_rings(self):
        # a b c d e a b c ..: each letter but the right one leads out of the ring.
        letters = "abcde"
        wrong = tuple(("row", ("*", letter, letters.replace(behind, ""), "*"))
                      for letter, behind in zip(letters, "bcdea"))
        round_and_round = ("not", ("either",) + wrong)
        ends = Pattern(letters, ("both", round_and_round, ("row", ("*", "c"))))
        self.assertIsNone(most_ranges(ends))
        self.check_words(ends, 20)
        begins = Pattern("edcba", ("both", round_and_round, ("row", ("c", "*"))))
        self.assertIsNone(most_ranges(begins))
        self.check_words(begins, 20)
        self.assertEqual(most_ranges(Pattern("ab", ("row", ("*", "b", "*")))), 1)
        self.assertEqual(most_ranges(Pattern("ba", ("both", ("row", ("a", "*")), ("row", ("*", "b", "*"))))), None)

    def test_many_standings(self):
        pattern = Pattern("abc", ("row", ("*", "ab") + ("?",) * 9))
        began = time.time()
        self.assertIsNone(most_ranges(pattern))
        self.check_words(pattern, 20)
        self.assertLess(time.time() - began, 30)
