"""Promises 13 and 14: dictionaries."""

import random
import unittest

from tests.helpers import NO_INTEGERS, raised, words_up_to
from wordvault.dictionaries import Dictionary
from wordvault.maps import NumberMap
from wordvault.patterns import Pattern

NO_WORDS = [None, True, 0, 7, [], ["a"], (), ("a",), {}, {"a": 1}, "c", "aB", "a ", "A", "a" * 201, "\u00e4"]


def in_order(letters, words):
    return sorted(words, key=lambda word: [letters.index(letter) for letter in word])


def many_words(many):
    words = []
    for word in words_up_to("abc", 8):
        words.append(word)
        if len(words) == many:
            return words
    raise AssertionError


class DictionariesTest(unittest.TestCase):
    def test_letters(self):
        for value in NO_INTEGERS + [0, "aa", "aba", "aB", "a1", "a", "ab ", "\u00e4a", ["a", "b"],
                                    "abcdefghijklmnopqrstuvwxyza"]:
            self.assertEqual(raised(Dictionary, value, []), ("BadLetters", value))
        for letters in ("ab", "ba", "zyxwvutsrqponmlkjihgfedcba"):
            self.assertEqual(Dictionary(letters, []).letters, letters)
        self.assertEqual(raised(Dictionary, "a", [3] * 2001), ("BadLetters", "a"))

    def test_words(self):
        for value in NO_WORDS + ["b"]:
            self.assertEqual(raised(Dictionary, "ab", ["b", value, 5]), ("BadWord", 1))
        self.assertEqual(raised(Dictionary, "ab", [5] * 2001), ("TooMany", "words", 2001, 2000))
        longest = "ab" * 100
        told = Dictionary("ab", [longest, ""])
        self.assertEqual(told.words, ("", longest))
        self.assertEqual(told.range_of(longest), (1, 1))

    def test_order_of_letters(self):
        rng = random.Random(3)
        for letters in ("ab", "ba", "cab", "zqm"):
            words = list(words_up_to(letters, 4))
            for _ in range(20):
                chosen = rng.sample(words, rng.randint(0, 12))
                told = Dictionary(letters, chosen)
                self.assertEqual(list(told.words), in_order(letters, chosen))
                self.assertEqual(told.many, len(chosen))
                for number, word in enumerate(told.words):
                    self.assertEqual((told.number_of(word), told.word_of(number)), (number, word))

    def test_what_is_handed_in_may_change(self):
        words = ["b", "a"]
        told = Dictionary("ab", words)
        words.append("x")
        words[0] = "aa"
        self.assertEqual(told.words, ("a", "b"))

    def test_equality(self):
        told = Dictionary("ab", ["a", "b"])
        self.assertEqual(told, Dictionary("ab", ("b", "a")))
        self.assertNotEqual(told, Dictionary("ba", ["a", "b"]))
        self.assertNotEqual(told, Dictionary("abc", ["a", "b"]))
        self.assertNotEqual(told, Dictionary("ab", ["a"]))
        self.assertFalse(told == ("a", "b"))

    def test_has_word_and_numbers(self):
        told = Dictionary("ab", ["", "b"])
        self.assertTrue(told.has_word(""))
        self.assertFalse(told.has_word("a"))
        for value in NO_WORDS:
            self.assertFalse(told.has_word(value))
            self.assertEqual(raised(told.number_of, value), ("NoWord", value))
            self.assertEqual(raised(told.strike_out, value), ("NoWord", value))
        self.assertEqual(raised(told.number_of, "a"), ("NoWord", "a"))
        for value in NO_INTEGERS + [-1, 2]:
            self.assertEqual(raised(told.word_of, value), ("NoNumber", value))
            self.assertEqual(raised(told.least_head, value), ("NoNumber", value))

    def test_places_and_ranges_held_against_lists(self):
        rng = random.Random(4)
        for letters in ("ab", "ba", "bca"):
            words = list(words_up_to(letters, 4))
            for _ in range(20):
                told = Dictionary(letters, rng.sample(words, rng.randint(0, 15)))
                for word in words:
                    ahead = [one for one in told.words if in_order(letters, [one, word])[0] == one != word]
                    self.assertEqual(told.place_for(word), len(ahead))
                    numbers = [number for number, one in enumerate(told.words) if one.startswith(word)]
                    wished = (numbers[0], numbers[-1]) if numbers else None
                    self.assertEqual(told.range_of(word), wished)
                for number, word in enumerate(told.words):
                    heads = [word[:size] for size in range(len(word) + 1)]
                    own = [head for head in heads
                           if [one for one in told.words if one.startswith(head)] == [word]]
                    self.assertEqual(told.least_head(number), own[0] if own else None)
        told = Dictionary("ab", ["a"])
        for value in NO_WORDS:
            self.assertEqual(raised(told.place_for, value), ("NotWord", value))
            self.assertEqual(raised(told.range_of, value), ("NotWord", value))
        self.assertEqual(told.least_head(0), "")
        self.assertEqual(Dictionary("ab", ["", "a"]).least_head(0), None)

    def test_put_in_and_strike_out(self):
        told = Dictionary("ba", ["b", "ba"])
        more, moved = told.put_in("")
        self.assertEqual((more.words, moved), (("", "b", "ba"), NumberMap(3, [1, 2])))
        less, left = more.strike_out("b")
        self.assertEqual((less.words, left), (("", "ba"), NumberMap(2, [0, None, 1])))
        again, back = less.put_in("b")
        self.assertEqual(again, more)
        self.assertEqual(left.followed_by(back).numbers, (0, None, 2))
        self.assertEqual(told.words, ("b", "ba"))
        for value in NO_WORDS:
            self.assertEqual(raised(told.put_in, value), ("NotWord", value))
        self.assertEqual(raised(told.put_in, "b"), ("OldWord", "b"))

    def test_most_words(self):
        words = many_words(2001)
        full = Dictionary("abc", words[:2000])
        self.assertEqual(full.many, 2000)
        self.assertEqual(raised(full.put_in, words[2000]), ("TooMany", "words", 2001, 2000))
        self.assertEqual(raised(full.put_in, words[7]), ("OldWord", words[7]))
        self.assertEqual(raised(full.put_in, "x"), ("NotWord", "x"))
        self.assertEqual(raised(full.join_with, Dictionary("abc", words[2000:])), ("TooMany", "words", 2001, 2000))
        self.assertEqual(raised(full.join_with, Dictionary("acb", words[2000:])), ("OtherLetters",))
        less, left = full.strike_out(words[0])
        self.assertEqual((less.many, left.many, len(left.numbers)), (1999, 1999, 2000))
        self.assertEqual(less.put_in(words[0])[0], full)

    def test_join_with_and_map_to(self):
        rng = random.Random(5)
        words = list(words_up_to("ba", 3))
        for _ in range(100):
            one = Dictionary("ba", rng.sample(words, rng.randint(0, 8)))
            other = Dictionary("ba", rng.sample(words, rng.randint(0, 8)))
            whole, of_one, of_other = one.join_with(other)
            self.assertEqual(list(whole.words), in_order("ba", set(one.words + other.words)))
            for part, told in ((one, of_one), (other, of_other)):
                self.assertEqual(told.many, whole.many)
                self.assertEqual([whole.words[number] for number in told.numbers], list(part.words))
            told = one.map_to(other)
            self.assertEqual(told.many, other.many)
            for number, word in zip(told.numbers, one.words):
                self.assertEqual(number, other.words.index(word) if word in other.words else None)
        self.assertEqual(raised(one.map_to, Dictionary("ab", [])), ("OtherLetters",))

    def test_ranges_of_patterns_behind_put_in(self):
        rng = random.Random(6)
        words = list(words_up_to("ab", 4))
        shape = ("either", ("row", ("a", "*", "b")), ("not", ("row", ("*", "a", "?"))))
        pattern = Pattern("ab", shape)
        for _ in range(50):
            chosen = rng.sample(words, 9)
            told = Dictionary("ab", chosen[1:])
            more, moved = told.put_in(chosen[0])
            numbers = [number for first, last in moved.ranges_behind(pattern.ranges_in(told))
                       for number in range(first, last + 1)]
            if pattern.fits_word(chosen[0]):
                numbers.append(more.number_of(chosen[0]))
            wished = [number for first, last in pattern.ranges_in(more) for number in range(first, last + 1)]
            self.assertEqual(sorted(numbers), wished)
