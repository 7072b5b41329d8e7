"""Promises 37 and 38: searchers, what a search does, and searchers that are made."""

import random
import unittest

from tests.helpers import NO_INTEGERS, raised, rows_up_to
from tests.seekers import random_phrase, random_searcher, signs_told
from tests.test_finders import NO_WISHES, WISHES
from tests.test_phrases import NO_SPOTS
from wordvault.classes import classes_of
from wordvault.finders import wanted
from wordvault.makers import made
from wordvault.phrases import Phrase, plain_phrase
from wordvault.searchers import Searcher, trace

GO = ("go", 1, 0)
CLASSES = (((0, 0),), ((1, 2),))


def nested(many, inner=GO):
    """So many tells within one another, the innermost one is a go."""
    tree = inner
    for _ in range(many - 1):
        tree = ("tell", tree)
    return tree


def searched(searcher, row):
    """A search, written down plainly: windows, places told, reads."""
    windows, told, reads = [], [], 0
    place, state = 0, 0
    while place + searcher.width <= len(row):
        windows.append((place, state))
        tree = searcher.states[state]
        while True:
            if tree[0] == "go":
                place, state = place + tree[1], tree[2]
                break
            if tree[0] == "tell":
                told.append(place)
                tree = tree[1]
                continue
            if place + tree[1] >= len(row):
                return tuple(windows), tuple(told), reads
            reads += 1
            sign = row[place + tree[1]]
            (number,) = [at for at, ranges in enumerate(searcher.classes) if sign in signs_told(ranges)]
            tree = tree[2][number]
    return tuple(windows), tuple(told), reads


class SearchersTest(unittest.TestCase):
    def test_form(self):
        classes, states = [[(0, 0)], ((1, 2),)], [("read", 0, (GO, ("tell", ("go", 2, 1)))), GO]
        searcher = Searcher(3, classes, 1, states)
        classes[0].append(7)
        states.append(7)
        self.assertEqual((searcher.signs, searcher.classes, searcher.width, searcher.states),
                         (3, CLASSES, 1, (("read", 0, (GO, ("tell", ("go", 2, 1)))), GO)))
        self.assertEqual(searcher, Searcher(3, CLASSES, 1, searcher.states))
        self.assertNotEqual(searcher, Searcher(3, CLASSES, 2, searcher.states))
        self.assertNotEqual(searcher, Searcher(3, CLASSES, 1, searcher.states[:1] + (("go", 1, 1),)))
        self.assertNotEqual(searcher, Searcher(3, [[(0, 1)], [(2, 2)]], 1, searcher.states))
        self.assertFalse(searcher == 7)

    def test_classes(self):
        for value in NO_INTEGERS + [0, -1, 2001]:
            self.assertEqual(raised(Searcher, value, [7], None, []), ("BadSigns", value))
        for value in NO_SPOTS:
            self.assertEqual(raised(Searcher, 3, [[(0, 1)], value, 7], None, []), ("BadClasses", 1))
        for classes, index in [([], 0), ([[(0, 1)]], 1), ([[(1, 2)]], 1), ([[(0, 1)], [(1, 2)]], 1), ([[(1, 1)], [(0, 0)]], 1),
                               ([[(1, 1)], [(2, 2)], [(0, 0)]], 2), ([[(0, 0), (2, 2)], [(1, 2)]], 1),
                               ([[(0, 2)], [(1, 1)]], 1), ([[(0, 0)], [(1, 1)]], 2)]:
            self.assertEqual(raised(Searcher, 3, classes, None, []), ("BadClasses", index))
        seven = [[(sign, sign)] for sign in range(7)]
        self.assertEqual(raised(Searcher, 7, seven, None, []), ("BadClasses", 6))
        self.assertEqual(raised(Searcher, 6, seven, None, []), ("BadClasses", 6))
        self.assertEqual(raised(Searcher, 7, seven[:6], None, []), ("BadClasses", 6))
        self.assertEqual(Searcher(6, seven[:6], 1, [GO]).classes, tuple(tuple(ranges) for ranges in seven[:6]))

    def test_widths_and_states(self):
        for value in NO_INTEGERS + [0, -1, 9]:
            self.assertEqual(raised(Searcher, 3, CLASSES, value, []), ("BadWidth", value))
        self.assertEqual(raised(Searcher, 3, CLASSES, 8, []), ("TooMany", "states", 0, 64))
        self.assertEqual(raised(Searcher, 3, CLASSES, 8, [7] * 65), ("TooMany", "states", 65, 64))
        self.assertEqual(len(Searcher(3, CLASSES, 8, [("go", 9, 63)] * 64).states), 64)

    def test_trees(self):
        wrong = NO_INTEGERS + [0, "go", ("go",), ("go", 1), ["go", 1, 0], ("go", 1, 0, 0), ("go", 0, 0), ("go", 4, 0),
                               ("go", 1, 2), ("go", 1, -1), ("go", True, 0), ("go", 1, None), ("Go", 1, 0), (None, 1, 0),
                               ("tell",), ("tell", 7), ("tell", GO, GO), ("tell", (GO,)), ["tell", GO], ("tell", None),
                               ("read", 0, ()), ("read", 0, (GO,)), ("read", 0, (GO, GO, GO)), ("read", 0, [GO, GO]),
                               ("read", -1, (GO, GO)), ("read", 3, (GO, GO)), ("read", True, (GO, GO)), ("read", 0, (GO, 7)),
                               ("read", 0, (7, GO)), ("read", 0), ("read", 0, GO), ("read", 0, None), (0, 0, 0), (("go",), 1, 0),
                               ("read", 1, (GO, ("tell", ("go", 1, 9)))), ({}, GO), ((), GO)]
        for tree in wrong:
            self.assertEqual(raised(Searcher, 3, CLASSES, 2, [GO, tree]), ("BadTree", 1), tree)
            self.assertEqual(raised(Searcher, 3, CLASSES, 2, [tree, 7]), ("BadTree", 0))
        for tree in [("go", 3, 1), ("read", 2, (GO, ("read", 2, (GO, GO)))), ("tell", ("tell", GO))]:
            self.assertEqual(Searcher(3, CLASSES, 2, [GO, tree]).states[1], tree)

    def test_forty_within_one_another(self):
        self.assertEqual(Searcher(3, CLASSES, 2, [nested(40)]).states, (nested(40),))
        self.assertEqual(raised(Searcher, 3, CLASSES, 2, [GO, nested(41), 7]), ("BadTree", 1))
        self.assertEqual(raised(Searcher, 3, CLASSES, 2, [nested(40, ("go", 0, 0))]), ("BadTree", 0))
        deep = GO
        for _ in range(39):
            deep = ("read", 0, (GO, deep))
        self.assertEqual(len(Searcher(3, CLASSES, 2, [deep]).states), 1)
        self.assertEqual(raised(Searcher, 3, CLASSES, 2, [("read", 0, (deep, GO))]), ("BadTree", 0))

    def test_nodes(self):
        # A tree of 46 + 47 trees, and one of 3.
        rows = [nested(40)] * 40 + [GO] * 24
        self.assertEqual(len(Searcher(3, CLASSES, 2, rows).states), 64)
        wide = GO
        for _ in range(9):
            wide = ("read", 0, (wide, wide))
        self.assertEqual(raised(Searcher, 3, CLASSES, 2, [wide] * 3), ("TooMany", "nodes", 3069, 3000))
        fit = [wide] * 2 + [nested(40)] * 23 + [nested(34)]
        self.assertEqual(len(Searcher(3, CLASSES, 2, fit).states), 26)
        self.assertEqual(raised(Searcher, 3, CLASSES, 2, fit[:-1] + [nested(35)]), ("TooMany", "nodes", 3001, 3000))
        self.assertEqual(raised(Searcher, 3, CLASSES, 2, [wide] * 3 + [nested(41)]), ("BadTree", 3))

    def test_traces_held_against_a_plain_search(self):
        rng = random.Random(38)
        for _ in range(200):
            phrase = random_phrase(rng, rng.randint(1, 3), rng.randint(1, 3))
            searcher = random_searcher(rng, phrase, rng.randint(1, 4))
            for _ in range(10):
                row = [rng.randrange(phrase.signs) for _ in range(rng.randint(0, 12))]
                run = trace(searcher, row)
                self.assertEqual((run.windows, run.told, run.reads), searched(searcher, row))
                again = trace(searcher, tuple(row))
                self.assertEqual((run.windows, run.told, run.reads), (again.windows, again.told, again.reads))

    def test_read_behind_the_end(self):
        searcher = Searcher(1, [[(0, 0)]], 2, [("tell", ("read", 0, (("read", 2, (("tell", ("go", 1, 0)),)),)))])
        run = trace(searcher, [0] * 4)
        self.assertEqual((run.windows, run.told, run.reads), (((0, 0), (1, 0), (2, 0)), (0, 0, 1, 1, 2), 5))
        run = trace(searcher, [0])
        self.assertEqual((run.windows, run.told, run.reads), ((), (), 0))

    def test_greatest_rows(self):
        searcher = Searcher(3, CLASSES, 2, [("read", 1, (("tell", GO), ("go", 2, 0)))])
        self.assertEqual(trace(searcher, [0] * 5000).reads, 4999)
        self.assertEqual(raised(trace, searcher, [0] * 5001), ("TooMany", "signs", 5001, 5000))
        for value in NO_INTEGERS + [-1, 3]:
            self.assertEqual(raised(trace, searcher, [0, value] + [0] * 5000), ("BadSign", 1))


class MakersTest(unittest.TestCase):
    def test_held_against_wanted(self):
        rng = random.Random(39)
        for number in range(60):
            phrase = random_phrase(rng, rng.randint(1, 3), number % 4 + 1)
            for way in ("plain", "all knowledge"):
                for wish in WISHES:
                    searcher = made(phrase, way, wish)
                    self.assertEqual((searcher.signs, searcher.width), (phrase.signs, phrase.width))
                    self.assertEqual(searcher.classes, classes_of([phrase]))
                    for row in rows_up_to(phrase.signs, 6):
                        self.assertEqual(trace(searcher, row).told, wanted(phrase, row, wish))
                self.assertEqual(made(phrase, way), made(phrase, way, "all"))

    def test_plain_trees(self):
        phrase = Phrase(3, [[(0, 0)], [(0, 2)], [(1, 2)]])
        fits = ("tell", GO)
        self.assertEqual(made(phrase, "plain").states, (("read", 0, (("read", 2, (GO, fits)), GO)),))
        self.assertEqual(made(phrase, "plain", "apart").states,
                         (("read", 0, (("read", 2, (GO, ("tell", ("go", 3, 0)))), GO)),))
        self.assertEqual(made(Phrase(3, [[(0, 2)]]), "plain").states, (("tell", GO),))

    def test_all_knowledge(self):
        # 0 1 0. State 1 knows a 0 at place 0, state 2 a 1 at place 1.
        searcher = made(plain_phrase(2, [0, 1, 0]), "all knowledge")
        known = ("tell", ("go", 2, 1))
        self.assertEqual(searcher.states, (
            ("read", 2, (("read", 1, (("go", 2, 1), ("read", 0, (known, ("go", 2, 1))))), ("go", 1, 2))),
            ("read", 2, (("read", 1, (("go", 2, 1), known)), ("go", 1, 2))),
            ("read", 2, (("read", 0, (known, ("go", 2, 1))), ("go", 3, 0)))))

    def test_known_places(self):
        # The spot in the midst has all signs: it is never read, but may be known.
        phrase = Phrase(2, [[(0, 0)], [(0, 1)], [(1, 1)]])
        searcher = made(phrase, "all knowledge", "apart")
        told = ("tell", ("go", 3, 0))
        self.assertEqual(searcher.states, (
            ("read", 2, (("go", 1, 1), ("read", 0, (told, ("go", 1, 2))))),
            ("read", 2, (("go", 1, 3), ("read", 0, (told, ("go", 1, 4))))),
            ("read", 2, (("go", 2, 5), ("read", 0, (told, ("go", 3, 0))))),
            ("read", 2, (("go", 1, 3), told)),
            ("read", 2, (("go", 2, 5), told)),
            ("read", 2, (("go", 1, 1), told))))
        self.assertEqual(made(phrase, "all knowledge").states[0],
                         ("read", 2, (("go", 1, 1), ("read", 0, (("tell", ("go", 1, 2)), ("go", 1, 2))))))

    def test_bounds(self):
        eight, nine = plain_phrase(9, [0] * 8), plain_phrase(9, range(9))
        self.assertEqual(made(eight, "plain").width, 8)
        self.assertEqual(raised(made, nine, "x", "x"), ("TooMany", "spots", 9, 8))
        six = plain_phrase(7, range(6))
        self.assertEqual(raised(made, six, "x", "x"), ("TooMany", "classes", 7, 6))
        five = plain_phrase(7, range(5))
        for value in NO_WISHES + ["Plain", "all"]:
            if value is not None:
                self.assertEqual(raised(made, five, value, "x"), ("BadWay", value))
            if value != "all":
                self.assertEqual(raised(made, five, "plain", value), ("BadWish", value))
                self.assertEqual(raised(made, five, "all knowledge", value), ("BadWish", value))

    def test_too_many_nodes_and_states(self):
        half = Phrase(6, [[(0, 2)], [(0, 0), (2, 3)], [(1, 4)], [(0, 1), (3, 5)]] * 2)
        self.assertEqual(raised(made, half, "all knowledge"), ("TooMany", "nodes", 3001, 3000))
        # Plain: 1 + 3 + 9 .. reads and 3 ** 8 tells, and a go for each tell, each class that does not fit.
        reads = [1, 3, 9, 36, 180, 540, 1620, 6480]
        fits = [3, 3, 4, 5] * 2
        gos = 6480 * 5 + sum(many * (6 - fit) for many, fit in zip(reads, fits))
        self.assertEqual(raised(made, half, "plain"), ("TooMany", "nodes", sum(reads) + 6480 * 5 + gos, 3000))
        self.assertEqual(len(made(Phrase(6, half.spots[:4]), "plain").states), 1)
        kinds = {}
        rng = random.Random(40)
        for _ in range(60):
            phrase = random_phrase(rng, 3, rng.randint(5, 8))
            error = raised(made, phrase, "all knowledge")
            kinds[error] = True
        self.assertIn(("TooMany", "states", 65, 64), kinds)
        self.assertIn(None, kinds)


if __name__ == "__main__":
    unittest.main()
