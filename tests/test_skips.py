"""Promise 40: searches in texts by rules."""

import random
import time
import unittest

from tests.helpers import NO_INTEGERS, raised, random_text
from tests.seekers import random_phrase, random_searcher
from tests.test_finders import WISHES
from tests.test_texts import chain
from wordvault.classes import classes_of
from wordvault.makers import made
from wordvault.phrases import plain_phrase
from wordvault.places import Places
from wordvault.searchers import Searcher, trace
from wordvault.skips import skips
from wordvault.texts import Text

GREAT = 10 ** 30


class SkipsTest(unittest.TestCase):
    def check(self, searcher, text, row):
        far, run = skips(searcher, text), trace(searcher, row)
        self.assertEqual((far.reads, far.windows, far.told), (run.reads, len(run.windows), len(run.told)))
        self.assertEqual(tuple(far.told_at(k) for k in range(far.told)), run.told)
        for value in NO_INTEGERS + [-1, far.told, GREAT]:
            self.assertEqual(raised(far.told_at, value), ("BadPlace", value))

    def test_held_against_trace(self):
        rng = random.Random(45)
        for number in range(150):
            phrase = random_phrase(rng, rng.randint(1, 3), rng.randint(1, 4))
            if number % 2:
                searcher = random_searcher(rng, phrase, rng.randint(1, 4))
            else:
                searcher = made(phrase, rng.choice(["plain", "all knowledge"]), rng.choice(WISHES))
            text, row = random_text(rng, phrase.signs, rng.randint(1, 10), 150)
            self.check(searcher, text, row)

    def test_short_texts(self):
        searcher = Searcher(2, [[(0, 1)]], 3, [("tell", ("read", 3, (("tell", ("go", 4, 0)),)))])
        for size in range(12):
            self.check(searcher, Text(2, {"A": [(1, size)] if size else []}, "A"), [1] * size)

    def test_many_tells_and_reads(self):
        tree = ("go", 1, 0)
        for _ in range(39):
            tree = ("tell", tree)
        reads = ("go", 1, 0)
        for _ in range(39):
            reads = ("read", 0, (reads,))
        for told in (tree, reads):
            searcher = Searcher(1, [[(0, 0)]], 1, [told])
            self.check(searcher, Text(1, {"A": [(0, 9)]}, "A"), [0] * 9)
            far = skips(searcher, Text(1, {"A": [(0, GREAT)]}, "A"))
            self.assertEqual(far.windows, GREAT)
            self.assertEqual({far.told, far.reads}, {0, 39 * GREAT})
            if far.told:
                self.assertEqual([far.told_at(k) for k in (0, 38, 39, 39 * GREAT - 1)], [0, 0, 1, GREAT - 1])

    def test_other_signs(self):
        searcher = Searcher(2, [[(0, 1)]], 1, [("go", 1, 0)])
        self.assertEqual(raised(skips, searcher, Text(3, {"A": []}, "A")), ("OtherSigns",))

    def test_great_texts_agree_with_places(self):
        text = Text(3, {"A": [("B", GREAT), (2, 3), ("C", 10 ** 20)], "B": [("C", 7), (0, 1)], "C": [(0, 1), (1, 2)]}, "A")
        for row in ([1, 0], [1, 1, 0], [0], [0, 1, 1, 0, 0], [2, 2]):
            phrase = plain_phrase(3, row)
            for wish in WISHES:
                places = Places(phrase, text, wish)
                for way in ("plain", "all knowledge"):
                    far = skips(made(phrase, way, wish), text)
                    self.assertEqual(far.told, places.many)
                    for k in {0, 1, far.told // 3, far.told - 1}:
                        if 0 <= k < far.told:
                            self.assertEqual(far.told_at(k), places.place_at(k))
                    self.assertEqual(raised(far.told_at, far.told), ("BadPlace", far.told))

    def test_slides_beyond_the_names(self):
        # It goes by 9 over names of 1 to 3 signs.
        phrase = plain_phrase(2, [0] * 8)
        searcher = Searcher(2, classes_of([phrase]), 8, [("read", 0, (("tell", ("go", 9, 0)), ("go", 9, 1))), ("go", 1, 0)])
        text = Text(2, {"A": [("B", 9), ("C", 9)], "B": [("C", 2), (1, 1)], "C": [(0, 3)]}, "A")
        self.check(searcher, text, ([0] * 6 + [1]) * 9 + [0] * 27)

    def test_deep_texts(self):
        began = time.time()
        text = chain(2000, GREAT)
        phrase = plain_phrase(2, [0, 1])
        far, places = skips(made(phrase, "all knowledge"), text), Places(phrase, text)
        self.assertEqual(far.told, places.many)
        for k in (0, far.told // 7, far.told - 1):
            self.assertEqual(far.told_at(k), places.place_at(k))
        self.assertLess(time.time() - began, 60)


if __name__ == "__main__":
    unittest.main()
