"""Promises 35 and 36: machines that find phrases, and their places in texts by rules."""

import random
import time
import unittest

from tests.helpers import NO_INTEGERS, listed, raised, random_text, rows_up_to
from tests.seekers import random_phrase, signs_told
from wordvault.alike import least_machine
from wordvault.finders import finder, wanted
from wordvault.phrases import Phrase, plain_phrase
from wordvault.places import Places
from wordvault.texts import Text

GREAT = 10 ** 30
WISHES = ("all", "apart")
NO_WISHES = NO_INTEGERS + [0, "ALL", "al", ("all",), ["apart"]]


def places_told(phrase, row, wish):
    """The places that are wanted."""
    spots = [signs_told(spot) for spot in phrase.spots]
    places, place = [], 0
    while place + phrase.width <= len(row):
        if all(sign in spot for sign, spot in zip(row[place:], spots)):
            places.append(place)
            place += phrase.width if wish == "apart" else 1
        else:
            place += 1
    return tuple(places)


class FindersTest(unittest.TestCase):
    def test_wanted_held_against_lists(self):
        rng = random.Random(34)
        for _ in range(100):
            phrase = random_phrase(rng, rng.randint(1, 3), rng.randint(1, 4))
            row = [rng.randrange(phrase.signs) for _ in range(rng.randint(0, 30))]
            for wish in WISHES:
                self.assertEqual(wanted(phrase, row, wish), places_told(phrase, row, wish))
                self.assertEqual(wanted(phrase, tuple(row), wish), places_told(phrase, row, wish))
            self.assertEqual(wanted(phrase, row), places_told(phrase, row, "all"))

    def test_finder_is_the_least_machine(self):
        rng = random.Random(35)
        for _ in range(60):
            phrase = random_phrase(rng, rng.randint(1, 3), rng.randint(1, 3))
            for wish in WISHES:
                machine = finder(phrase, wish)
                self.assertEqual(machine, least_machine(machine))
                for row in rows_up_to(phrase.signs, 5):
                    marked = tuple(place + phrase.width - 1 for place in places_told(phrase, row, wish))
                    self.assertEqual(machine.marked_in(row), marked)
                    self.assertEqual(machine.has_text(row), len(row) > 0 and len(row) - 1 in marked)
            self.assertEqual(finder(phrase), finder(phrase, "all"))

    def test_errors_in_order(self):
        phrase = plain_phrase(3, [0, 1])
        for value in NO_INTEGERS + [-1, 3]:
            self.assertEqual(raised(wanted, phrase, [0, value, 7], "x"), ("BadSign", 1))
        text = Text(3, {"A": [(0, 1)]}, "A")
        for value in NO_WISHES:
            self.assertEqual(raised(wanted, phrase, [0, 1], value), ("BadWish", value))
            self.assertEqual(raised(finder, phrase, value), ("BadWish", value))
            self.assertEqual(raised(Places, phrase, text, value), ("BadWish", value))
        self.assertEqual(raised(Places, phrase, Text(2, {"A": []}, "A"), "x"), ("OtherSigns",))

    def test_great_finder(self):
        began = time.time()
        rng = random.Random(36)
        phrase = random_phrase(rng, 2000, 10)
        machine = finder(phrase)
        row = [rng.randrange(2000) for _ in range(3000)]
        self.assertEqual(machine.marked_in(row), tuple(place + 9 for place in wanted(phrase, row)))
        self.assertLess(time.time() - began, 60)


class PlacesTest(unittest.TestCase):
    def check(self, told, places, size):
        self.assertEqual(told.many, len(places))
        self.assertEqual([told.place_at(k) for k in range(told.many)], list(places))
        for place in list(range(-3, size + 4)) + [-GREAT, GREAT]:
            ahead = [one for one in places if one < place]
            behind = [one for one in places if one >= place]
            self.assertEqual(told.number_ahead(place), len(ahead))
            self.assertEqual(told.first_from(place), behind[0] if behind else None)
            self.assertEqual(told.last_ahead(place), ahead[-1] if ahead else None)
        for value in NO_INTEGERS + [-1, len(places), GREAT]:
            self.assertEqual(raised(told.place_at, value), ("BadPlace", value))

    def test_held_against_lists(self):
        rng = random.Random(37)
        for _ in range(80):
            signs = rng.randint(1, 3)
            phrase = random_phrase(rng, signs, rng.randint(1, 4))
            text, row = random_text(rng, signs, rng.randint(1, 8), 60)
            for wish in WISHES:
                told = Places(phrase, text, wish)
                self.assertEqual((told.phrase, told.text, told.wish), (phrase, text, wish))
                self.check(told, places_told(phrase, row, wish), len(row))

    def test_short_texts(self):
        phrase = plain_phrase(2, [0, 1, 0])
        for row in ([], [0], [0, 1], [0, 1, 0], [1, 1, 0]):
            text = Text(2, {"A": [(sign, 1) for sign in row]}, "A")
            self.assertEqual(listed(text), row)
            self.check(Places(phrase, text), places_told(phrase, row, "all"), len(row))

    def test_great_texts(self):
        text = Text(2, {"A": [("B", GREAT), (0, 1)], "B": [(0, 1), (1, 2)]}, "A")
        every, apart = Places(plain_phrase(2, [0, 1]), text), Places(Phrase(2, [[(1, 1)], [(0, 1)]]), text, "apart")
        self.assertEqual((every.many, every.place_at(0), every.place_at(GREAT - 1)), (GREAT, 0, 3 * GREAT - 3))
        self.assertEqual(raised(every.place_at, GREAT), ("BadPlace", GREAT))
        # 011 011 .. 0: 11 stands at 1, 4, 7, ..; it is wanted each time.
        self.assertEqual((apart.many, apart.place_at(7), apart.place_at(GREAT - 1)), (GREAT, 22, 3 * GREAT - 2))
        runs = Places(plain_phrase(1, [0] * 4), Text(1, {"A": [(0, GREAT)]}, "A"), "apart")
        self.assertEqual((runs.many, runs.place_at(10 ** 20), runs.number_ahead(9)), (GREAT // 4, 4 * 10 ** 20, 3))
        self.assertEqual([runs.first_from(9), runs.last_ahead(9), runs.last_ahead(0), runs.first_from(GREAT - 3)],
                         [12, 8, None, None])
        self.assertEqual([every.first_from(-GREAT), every.last_ahead(GREAT * GREAT)], [0, 3 * GREAT - 3])
        self.assertEqual(every.number_ahead(10 ** 40), GREAT)


if __name__ == "__main__":
    unittest.main()
