"""Promises 33 and 34: phrases, and the classes of signs that they do not tell apart."""

import random
import unittest

from tests.helpers import NO_INTEGERS, raised, rows_up_to
from tests.seekers import random_phrase, ranges_told, signs_told
from wordvault.classes import classes_of
from wordvault.phrases import Phrase, plain_phrase

# What is no ranges of at least one of three signs.
NO_SPOTS = NO_INTEGERS + [0, [0], [(0,)], [(0, 1, 2)], [[0, 1]], [(1, 0)], [(0, 3)], [(-1, 0)], [(0, 0), (1, 1)],
                          [(0, 0), (0, 2)], [(2, 2), (0, 0)], [(True, 1)], [(0, None)], ["01"], ((0, 0), 7)]


class PhrasesTest(unittest.TestCase):
    def test_fits(self):
        rng = random.Random(31)
        for _ in range(60):
            signs, width = rng.randint(1, 4), rng.randint(1, 3)
            phrase = random_phrase(rng, signs, width)
            spots = [signs_told(spot) for spot in phrase.spots]
            for row in rows_up_to(signs, 4):
                told = len(row) == width and all(sign in spot for sign, spot in zip(row, spots))
                self.assertIs(phrase.fits_row(list(row)), told)
                self.assertIs(phrase.fits_row(row), told)
        self.assertFalse(phrase.fits_row([10 ** 30] * phrase.width))
        self.assertFalse(phrase.fits_row([-1] * phrase.width))
        self.assertFalse(phrase.fits_row([signs] * phrase.width))

    def test_overlaps_held_against_short_rows(self):
        rng = random.Random(32)
        for number in range(120):
            signs = rng.randint(1, 3)
            one = random_phrase(rng, signs, rng.randint(1, 3))
            other = one if number % 4 == 0 else random_phrase(rng, signs, rng.randint(1, 3))
            told = []
            for offset in range(one.width):
                size = max(one.width, offset + other.width)
                for row in rows_up_to(signs, size):
                    if len(row) == size and one.fits_row(row[:one.width]):
                        if other.fits_row(row[offset:offset + other.width]):
                            told.append(offset)
                            break
            self.assertEqual(one.overlaps_at(other), tuple(told))
        self.assertEqual(raised(one.overlaps_at, plain_phrase(one.signs + 1, [0])), ("OtherSigns",))

    def test_form(self):
        ranges = [[0, 1], (1, 1)]
        spots = [[(0, 1)], ((0, 0), (2, 2))]
        phrase = Phrase(3, spots)
        spots[0].append((5, 5))
        spots.append(7)
        self.assertEqual((phrase.signs, phrase.spots, phrase.width), (3, (((0, 1),), ((0, 0), (2, 2))), 2))
        self.assertEqual(phrase, Phrase(3, (((0, 1),), [(0, 0), (2, 2)])))
        self.assertNotEqual(phrase, Phrase(4, phrase.spots))
        self.assertNotEqual(phrase, Phrase(3, phrase.spots[:1]))
        self.assertFalse(phrase == phrase.spots)
        self.assertEqual(raised(Phrase, 3, [[(0, 1)], ranges]), ("BadSpot", 1))

    def test_greatest(self):
        phrase = Phrase(2000, [[(0, 1999)]] * 9 + [[(1999, 1999)]])
        self.assertEqual((phrase.width, phrase.overlaps_at(phrase)), (10, tuple(range(10))))
        self.assertTrue(phrase.fits_row([7] * 9 + [1999]))
        self.assertEqual(raised(Phrase, 2001, [[(0, 0)]]), ("BadSigns", 2001))
        self.assertEqual(plain_phrase(1, [0] * 10).spots, (((0, 0),),) * 10)

    def test_errors_in_order(self):
        for value in NO_INTEGERS + [0, -1, 2001]:
            self.assertEqual(raised(Phrase, value, []), ("BadSigns", value))
            self.assertEqual(raised(plain_phrase, value, []), ("BadSigns", value))
        for many in (0, 11):
            self.assertEqual(raised(Phrase, 3, [7] * many), ("TooMany", "spots", many, 10))
            self.assertEqual(raised(plain_phrase, 3, [7] * many), ("TooMany", "spots", many, 10))
        for spot in NO_SPOTS:
            self.assertEqual(raised(Phrase, 3, [[(0, 2)], spot, 7]), ("BadSpot", 1))
        for value in NO_INTEGERS + [-1, 3, 10 ** 30]:
            for place in range(3):
                row = [0, 1, 2]
                row[place] = value
                self.assertEqual(raised(plain_phrase, 3, row), ("BadSign", place))

    def test_plain_phrases(self):
        for row in rows_up_to(3, 3):
            if row:
                phrase = plain_phrase(3, list(row))
                self.assertEqual([other for other in rows_up_to(3, 4) if phrase.fits_row(other)], [row])


class ClassesTest(unittest.TestCase):
    def test_held_against_all_signs(self):
        rng = random.Random(33)
        for number in range(100):
            signs = rng.randint(1, 9)
            phrases = [random_phrase(rng, signs, rng.randint(1, 3)) for _ in range(number % 6 + 1)]
            spots = [signs_told(spot) for phrase in phrases for spot in phrase.spots]
            groups = {}
            for sign in range(signs):
                groups.setdefault(tuple(sign in spot for spot in spots), []).append(sign)
            wished = sorted(groups.values())
            self.assertEqual(classes_of(phrases), tuple(tuple(ranges_told(group)) for group in wished))
            self.assertEqual(classes_of(tuple(phrases)), classes_of(phrases))
        self.assertEqual(classes_of([plain_phrase(4, [1, 1])]), (((0, 0), (2, 3)), ((1, 1),)))

    def test_other_signs(self):
        one, other = plain_phrase(3, [0]), plain_phrase(4, [0])
        self.assertEqual(raised(classes_of, [one, one, other]), ("OtherSigns",))
        self.assertEqual(raised(classes_of, [other, one]), ("OtherSigns",))

    def test_great_classes(self):
        phrases = [Phrase(2000, [ranges_told([sign for sign in range(2000) if sign >> bit & 1])]) for bit in range(6)]
        told = classes_of(phrases)
        self.assertEqual((len(told), told[63][0]), (64, (63, 63)))
        self.assertEqual(classes_of([Phrase(2000, [[(0, 1999)]])]), (((0, 1999),),))


if __name__ == "__main__":
    unittest.main()
