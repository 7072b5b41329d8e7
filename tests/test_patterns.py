"""Promises 15 and 16: patterns of letters."""

import random
import time
import unittest

from tests.helpers import NO_INTEGERS, raised, words_up_to
from wordvault.dictionaries import Dictionary
from wordvault.patterns import Pattern, lacked_at, least_fit, parted_at


def fits_items(items, word):
    if not items:
        return word == ""
    if items[0] == "*":
        return any(fits_items(items[1:], word[size:]) for size in range(len(word) + 1))
    if word == "" or not (items[0] == "?" or word[0] in items[0]):
        return False
    return fits_items(items[1:], word[1:])


def fits(part, word):
    if part[0] == "row":
        return fits_items(part[1], word)
    if part[0] == "not":
        return not fits(part[1], word)
    told = [fits(one, word) for one in part[1:]]
    return all(told) if part[0] == "both" else any(told)


def random_shape(rng, letters, depth=3):
    kind = rng.choice(["row", "row", "not", "both", "either"]) if depth else "row"
    if kind == "row":
        items = []
        for _ in range(rng.randint(0, 4)):
            some = "".join(rng.sample(letters, rng.randint(1, len(letters))))
            items.append(rng.choice(["?", "*", "*", some, some[0]]))
        return ("row", tuple(items))
    if kind == "not":
        return ("not", random_shape(rng, letters, depth - 1))
    return (kind,) + tuple(random_shape(rng, letters, depth - 1) for _ in range(rng.choice([0, 1, 2, 2, 3])))


class PatternsTest(unittest.TestCase):
    def test_fits_held_against_the_words(self):
        rng = random.Random(7)
        for letters in ("ab", "ba", "cab"):
            words = list(words_up_to(letters, 5 if len(letters) == 2 else 4))
            for _ in range(80):
                shape = random_shape(rng, letters)
                told = Pattern(letters, shape)
                fitting = [word for word in words if fits(shape, word)]
                self.assertEqual([word for word in words if told.fits_word(word)], fitting)
                for most in (0, 1, 3):
                    self.assertEqual(told.count_words(most), len([word for word in fitting if len(word) <= most]))
                least = least_fit(told)
                self.assertEqual(least, fitting[0] if fitting else (least if least and len(least) > 4 else None))

    def test_ranges_in(self):
        rng = random.Random(8)
        words = list(words_up_to("cba", 3))
        for _ in range(60):
            told = Pattern("cba", random_shape(rng, "cba"))
            dictionary = Dictionary("cba", rng.sample(words, rng.randint(0, 20)))
            ranges = told.ranges_in(dictionary)
            numbers = [number for first, last in ranges for number in range(first, last + 1)]
            self.assertEqual(numbers, [at for at, word in enumerate(dictionary.words) if told.fits_word(word)])
            self.assertTrue(all(one[1] + 1 < two[0] for one, two in zip(ranges, ranges[1:])))
        self.assertEqual(raised(told.ranges_in, Dictionary("abc", [])), ("OtherLetters",))

    def test_attributes_and_equality(self):
        shape = ("row", ("a", "*"))
        told = Pattern("ab", shape)
        self.assertEqual((told.letters, told.shape), ("ab", shape))
        self.assertEqual(told, Pattern("ab", ("row", ("a", "*"))))
        self.assertNotEqual(told, Pattern("ba", shape))
        self.assertNotEqual(told, Pattern("ab", ("row", ("a", "*", "*"))))
        self.assertFalse(told == shape)

    def test_parts_without_parts(self):
        every, none = Pattern("ab", ("both",)), Pattern("ab", ("either",))
        self.assertTrue(every.fits_word("") and every.fits_word("ab"))
        self.assertFalse(none.fits_word("") or none.fits_word("ab"))
        self.assertEqual((least_fit(every), least_fit(none)), ("", None))
        self.assertEqual((every.count_words(3), none.count_words(3)), (15, 0))
        self.assertEqual(Pattern("ab", ("row", ())).count_words(200), 1)

    def test_bad_letters(self):
        for value in NO_INTEGERS + ["aa", "aB"]:
            self.assertEqual(raised(Pattern, value, 7), ("BadLetters", value))

    def test_path_of_bad_parts(self):
        bad_parts = [None, True, 0, "row", [], (), ("row",), ("row", []), ("row", "ab"), ("row", (), ()), ("not",),
                     ("not", ("both",), ("both",)), ("neither",), (1,), (["row"],), {"row": 1}, ["both"],
                     ("Row", ()), (None, ())]
        for part in bad_parts:
            self.assertEqual(raised(Pattern, "ab", part), ("BadPart", ()))
            self.assertEqual(raised(Pattern, "ab", ("not", part)), ("BadPart", (1,)))
            self.assertEqual(raised(Pattern, "ab", ("both", ("row", ("a",)), part, 7)), ("BadPart", (2,)))
            shape = ("either", ("both",), ("not", ("both", ("row", ()), ("not", part))), ("row", (7,)))
            self.assertEqual(raised(Pattern, "ab", shape), ("BadPart", (2, 1, 2, 1)))
        for item in [None, True, 0, "", "c", "aa", "a?", "**", "?*", "A", [], ["a"], (), ("a",), {}]:
            self.assertEqual(raised(Pattern, "ab", ("row", (item,))), ("BadPart", (1, 0)))
            self.assertEqual(raised(Pattern, "ab", ("row", ("ab", "*", item, 7))), ("BadPart", (1, 2)))
            self.assertEqual(raised(Pattern, "ab", ("not", ("both", ("row", ("a", item)), 5))), ("BadPart", (1, 1, 1, 1)))

    def test_first_of_several(self):
        self.assertEqual(raised(Pattern, "ab", ("both", ("row", ("a", "x")), 7)), ("BadPart", (1, 1, 1)))
        self.assertEqual(raised(Pattern, "ab", ("both", 7, ("row", ("a", "x")))), ("BadPart", (1,)))
        self.assertEqual(raised(Pattern, "ab", ("both",) + (("both",),) * 70 + (7,)), ("BadPart", (71,)))

    def test_most_parts(self):
        self.assertTrue(Pattern("ab", ("row", ("?",) * 59)).fits_word("ab" * 29 + "a"))
        self.assertEqual(raised(Pattern, "ab", ("row", ("?",) * 60)), ("TooMany", "parts", 61, 60))
        self.assertEqual(raised(Pattern, "ab", ("both",) + (("row", ("a",)),) * 30), ("TooMany", "parts", 61, 60))
        deep = ("row", ("a",))
        for _ in range(58):
            deep = ("not", deep)
        self.assertTrue(Pattern("ab", deep).fits_word("a"))
        for _ in range(600):
            deep = ("not", deep)
        self.assertEqual(raised(Pattern, "ab", deep), ("TooMany", "parts", 660, 60))
        self.assertEqual(raised(Pattern, "ab", ("both", deep, None)), ("BadPart", (2,)))

    def test_most_standings(self):
        # With n "?" behind an "a" each row of n + 1 letters has a standing of its own.
        most = Pattern("ab", ("row", ("*", "a") + ("?",) * 9))
        self.assertEqual(len(most.moves), 2 ** 10)
        wide = ("row", ("*", "a") + ("?",) * 10)
        self.assertEqual(raised(Pattern, "ab", wide), ("TooMany", "standings", 2001, 2000))
        self.assertEqual(raised(Pattern, "ab", ("both", wide, ("row", ("a",) * 50))), ("TooMany", "parts", 65, 60))
        both = ("both", ("row", ("a",) * 7), ("either",), ("not", ("row", ("*",))))
        self.assertFalse(Pattern("ab", both).fits_word("aaaaaaa"))

    def test_long_words(self):
        told = Pattern("ab", ("row", ("*", "a", "?", "?")))
        self.assertTrue(told.fits_word("b" * 99997 + "abb"))
        self.assertFalse(told.fits_word("b" * 100000))
        for value in [None, True, 7, [], ["a"], {}, "abc", "A", "a" * 100001, "a " * 700]:
            self.assertEqual(raised(told.fits_word, value), ("NotWord", value))

    def test_count_words(self):
        told = Pattern("ab", ("row", ("*", "b")))
        self.assertEqual([told.count_words(most) for most in (0, 1, 2, 200)], [0, 1, 3, 2 ** 200 - 1])
        for value in NO_INTEGERS + [-1, 201]:
            self.assertEqual(raised(told.count_words, value), ("BadMost", value))
        letters = "abcdefghijklmnopqrstuvwxyz"
        wide = Pattern(letters, ("row", ("*", "abcm") + ("?",) * 8))
        began = time.time()
        self.assertEqual(wide.count_words(200), sum(4 * 26 ** (size - 1) for size in range(9, 201)))
        self.assertLess(time.time() - began, 30)

    def test_parted_and_lacked_held_against_words(self):
        rng = random.Random(9)
        for letters in ("ab", "ba", "bca"):
            words = list(words_up_to(letters, 5 if len(letters) == 2 else 4))
            for _ in range(100):
                shapes = [random_shape(rng, letters, 2) for _ in range(2)]
                one, other = [Pattern(letters, shape) for shape in shapes]
                kinds = [(fits(shapes[0], word), fits(shapes[1], word)) for word in words]
                for told, unlike in ((parted_at(one, other), [(True, False), (False, True)]),
                                     (lacked_at(one, other), [(True, False)])):
                    wished = [word for word, kind in zip(words, kinds) if kind in unlike]
                    if wished:
                        self.assertEqual(told, wished[0])
                    elif told is not None:
                        self.assertGreater(len(told), len(words[-1]))
                        self.assertIn((fits(shapes[0], told), fits(shapes[1], told)), unlike)
                self.assertEqual(parted_at(one, other), parted_at(other, one))
        self.assertEqual(raised(parted_at, Pattern("ab", ("both",)), Pattern("ba", ("both",))), ("OtherLetters",))
        self.assertEqual(raised(lacked_at, Pattern("ab", ("both",)), Pattern("ba", ("both",))), ("OtherLetters",))

    def test_long_least_words(self):
        row = ("row", ("ab", "b", "a") * 19)
        told = Pattern("ab", row)
        self.assertEqual(least_fit(told), "aba" * 19)
        self.assertEqual(parted_at(told, Pattern("ab", ("either",))), "aba" * 19)
        self.assertEqual(lacked_at(told, Pattern("ab", ("row", ("*", "a") + ("*",)))), None)
        self.assertEqual(lacked_at(Pattern("ab", ("row", ("*",) + ("?",) * 20)), Pattern("ab", ("row", ("*", "b", "*")))),
                         "a" * 20)

    def test_words_that_hold_all_rows_of_letters(self):
        # A word in which no three letters come twice is told off only by a long word.
        parts = tuple(("row", ("*",) + tuple(word) + ("*",)) for word in words_up_to("ab", 3) if len(word) == 3)
        told = Pattern("ab", ("both",) + parts)
        self.assertEqual(least_fit(told), "aaababbbaa")
        self.assertEqual(lacked_at(told, Pattern("ab", ("row", ("a", "*", "b")))), "aaababbbaa")

    def test_many_pairs_of_standings(self):
        one = Pattern("abcd", ("row", ("*", "ab") + ("?",) * 7))
        other = Pattern("abcd", ("row", ("*", "ac") + ("?",) * 7))
        began = time.time()
        self.assertEqual(lacked_at(one, other), "b" + "a" * 7)
        same = Pattern("abcd", ("not", ("not", ("row", ("*", "*", "ca") + ("?",) * 7))))
        self.assertIsNone(parted_at(other, same))
        self.assertIsNone(lacked_at(other, same))
        self.assertLess(time.time() - began, 60)
