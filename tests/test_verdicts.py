"""Promise 39: searchers that are right for all texts, and least rows over which others are wrong."""

import itertools
import random
import unittest

from tests.helpers import NO_INTEGERS, raised, rows_up_to
from tests.seekers import bent_searcher, random_phrase, random_searcher
from tests.test_finders import NO_WISHES, WISHES
from wordvault.classes import classes_of
from wordvault.finders import wanted
from wordvault.makers import made
from wordvault.phrases import Phrase, plain_phrase
from wordvault.searchers import Searcher, trace
from wordvault.verdicts import Right, Wrong, is_right, verdict


def goes_wrong(searcher, phrase, wish, row):
    return trace(searcher, row).told != wanted(phrase, row, wish)


def least_wrong(searcher, phrase, wish, most):
    """The least length of a wrong row, held against all short rows; None if there is none."""
    for row in rows_up_to(phrase.signs, most):
        if goes_wrong(searcher, phrase, wish, row):
            return len(row)
    return None


def turn_rows(searcher, row, apart):
    """The rows behind a row that is never wrong, written down plainly."""
    state, known, shut = row
    told = []

    def go_on(tree, knows, tells):
        if tree[0] == "tell":
            go_on(tree[1], knows, True)
        elif tree[0] == "go":
            left = searcher.width if apart and tells else shut
            told.append((tree[2], knows[tree[1]:] + (-1,) * tree[1], max(0, left - tree[1])))
        elif knows[tree[1]] >= 0:
            go_on(tree[2][knows[tree[1]]], knows, tells)
        else:
            for number, part in enumerate(tree[2]):
                go_on(part, knows[:tree[1]] + (number,) + knows[tree[1] + 1:], tells)

    go_on(searcher.states[state], known, False)
    return told


def rows_that_come_up(searcher, apart):
    first = (0, (-1,) * (searcher.width + 1), 0)
    seen, todo = {first}, [first]
    while todo:
        for row in turn_rows(searcher, todo.pop(), apart):
            if row not in seen:
                seen.add(row)
                todo.append(row)
    return tuple(sorted(seen))


class VerdictsTest(unittest.TestCase):
    def check(self, searcher, phrase, wish, most=6):
        told = verdict(searcher, phrase, wish)
        self.assertEqual((told.searcher, told.phrase, told.wish), (searcher, phrase, wish))
        least = least_wrong(searcher, phrase, wish, most)
        if isinstance(told, Right):
            self.assertIsNone(least)
            self.assertEqual(told.rows, rows_that_come_up(searcher, wish == "apart"))
            self.assertTrue(is_right(told))
            return True
        self.assertIsInstance(told, Wrong)
        self.assertIsInstance(told.row, tuple)
        self.assertTrue(goes_wrong(searcher, phrase, wish, told.row))
        if least is None:
            self.assertGreater(len(told.row), most)
        else:
            self.assertEqual(len(told.row), least)
        return False

    def test_made_searchers_are_right(self):
        rng = random.Random(41)
        for number in range(40):
            phrase = random_phrase(rng, rng.randint(1, 3), number % 4 + 1)
            for way, wish in itertools.product(("plain", "all knowledge"), WISHES):
                self.assertTrue(self.check(made(phrase, way, wish), phrase, wish, 5))

    def test_any_searchers(self):
        rng = random.Random(42)
        for number in range(300):
            phrase = random_phrase(rng, rng.randint(1, 3), rng.randint(1, 3))
            searcher = random_searcher(rng, phrase, rng.randint(1, 3))
            self.check(searcher, phrase, WISHES[number % 2])

    def test_bent_searchers(self):
        rng = random.Random(43)
        kinds = {True: 0, False: 0}
        for number in range(300):
            phrase = random_phrase(rng, rng.randint(2, 3), rng.randint(1, 4))
            wish = WISHES[number % 2]
            searcher = bent_searcher(rng, phrase, rng.choice(["plain", "all knowledge"]), wish)
            kinds[self.check(searcher, phrase, wish, 6 if phrase.signs == 3 else 8)] += 1
        self.assertGreater(min(kinds.values()), 20)

    def test_faults_that_need_the_sign_behind(self):
        # A window of width 1; the sign behind it is read, and what is done depends on it.
        phrase = plain_phrase(2, [1])
        classes = classes_of([phrase])
        go = ("go", 1, 0)
        told = ("tell", go)
        tree = ("read", 0, (go, ("read", 1, (told, told))))
        least = verdict(Searcher(2, classes, 1, [tree]), phrase)
        self.assertEqual(least.row, (1,))
        tree = ("read", 0, (go, ("tell", ("read", 1, (go, ("tell", go))))))
        least = verdict(Searcher(2, classes, 1, [tree]), phrase)
        self.assertEqual(least.row, (1, 1))
        tree = ("read", 0, (("read", 1, (go, ("go", 2, 0))), told))
        least = verdict(Searcher(2, classes, 1, [tree]), phrase)
        self.assertEqual(least.row, (0, 1))
        tree = ("read", 0, (("read", 1, (("go", 2, 0), go)), told))
        self.assertIsInstance(verdict(Searcher(2, classes, 1, [tree]), phrase), Right)

    def test_unfit_and_other_errors_in_order(self):
        phrase = Phrase(4, [[(0, 1)], [(1, 1)]])
        two = Searcher(4, [[(0, 1)], [(2, 3)]], 2, [("go", 1, 0)])
        one = Searcher(4, [[(0, 1)], [(2, 3)]], 1, [("go", 1, 0)])
        three = Searcher(3, [[(0, 2)]], 1, [("go", 1, 0)])
        for told in (lambda *given: verdict(*given), lambda *given: is_right(Right(*given, "x"))):
            self.assertEqual(raised(told, three, phrase, "x"), ("OtherSigns",))
            self.assertEqual(raised(told, one, phrase, "x"), ("BadWidth", 2))
            self.assertEqual(raised(told, two, phrase, "x"), ("Unfit", 1))
            fit = Searcher(4, [[(0, 0)], [(1, 1)], [(2, 3)]], 2, [("go", 1, 0)])
            for value in NO_WISHES:
                error = raised(told, fit, phrase, value)
                self.assertEqual(error[0], "BadWish")
        self.assertEqual(raised(verdict, Searcher(4, [[(0, 3)]], 2, [("go", 1, 0)]), phrase), ("Unfit", 0))

    def test_finer_classes(self):
        phrase = Phrase(4, [[(0, 1)]])
        tree = ("read", 0, (("tell", ("go", 1, 0)),) * 2 + (("go", 1, 0),))
        told = verdict(Searcher(4, [[(0, 0)], [(1, 1)], [(2, 3)]], 1, [tree]), phrase)
        self.assertEqual(told.rows, ((0, (-1, -1), 0),))

    def test_too_many_rows(self):
        # The last place is read first, always: so all that was read is known, 3 ** (width - 1) rows at last.
        for width, wish in itertools.product((4, 7, 8), WISHES):
            phrase = plain_phrase(3, [0, 1] * (width // 2) + [0] * (width % 2))
            classes = classes_of([phrase])
            go = ("go", 1, 0)
            tree = ("tell", ("go", width, 0) if wish == "apart" else go)
            for place in range(width - 1, -1, -1):
                tree = ("read", place, tuple([tree if number == place % 2 else go for number in range(3)]))
            searcher = Searcher(3, classes, width, [("read", width - 1, (tree,) * 3)])
            if width == 8:
                self.assertEqual(raised(verdict, searcher, phrase, wish), ("TooMany", "rows", 2001, 2000))
            else:
                told = verdict(searcher, phrase, wish)
                self.assertGreater(len(told.rows), 3 ** (width - 1))
                self.assertEqual(told.rows, rows_that_come_up(searcher, wish == "apart"))
                self.assertTrue(is_right(told))
            # is_right is not bound to so many rows.
            self.assertTrue(is_right(Right(searcher, phrase, wish, rows_that_come_up(searcher, wish == "apart"))))


class IsRightTest(unittest.TestCase):
    def setUp(self):
        self.phrase = plain_phrase(2, [1, 1, 0])
        self.searcher = made(self.phrase, "all knowledge", "apart")
        self.right = verdict(self.searcher, self.phrase, "apart")

    def told(self, rows):
        return is_right(Right(self.searcher, self.phrase, "apart", rows))

    def test_more_rows_in_any_order(self):
        rows = list(self.right.rows)
        self.assertTrue(self.told(rows))
        self.assertTrue(self.told(rows[::-1] + rows))
        self.assertTrue(self.told([list(row) for row in rows]))
        # A row that does not come up: state 0 knows nothing, but that a place told is overlapped.
        first = self.right.rows[0]
        self.assertEqual(first, (0, (-1,) * 4, 0))
        more = []
        for known in itertools.product((-1, 0, 1), repeat=4):
            row = (0, known, 0)
            behind = [row]
            for told in behind:
                behind.extend([one for one in turn_rows(self.searcher, told, True) if one not in behind])
            if row not in rows and self.told(rows + behind):
                more.append(row)
        self.assertTrue(more)

    def test_rows_that_are_left_out(self):
        rows = list(self.right.rows)
        self.assertGreater(len(rows), 2)
        for at in range(len(rows)):
            self.assertFalse(self.told(rows[:at] + rows[at + 1:]))
        self.assertFalse(self.told([]))

    def test_rows_that_are_none(self):
        rows = list(self.right.rows)
        for value in NO_INTEGERS + [0, "rows", 7]:
            self.assertIs(self.told(value), False)
            self.assertIs(self.told(rows + [value]), False)
        state, known, shut = rows[1]
        for bent in [(state, known), (state, known, shut, 0), (99, known, shut), (-1, known, shut), (True, known, shut),
                     (state, known[1:], shut), (state, known + (-1,), shut), (state, (-2,) + known[1:], shut),
                     (state, (2,) + known[1:], shut), (state, (True,) + known[1:], shut), (state, None, shut),
                     (state, known, 3), (state, known, -1), (state, known, None), (state, known, True), (state, known, [0])]:
            self.assertIs(self.told(rows + [bent]), False, bent)

    def test_shut_for_all(self):
        searcher = made(self.phrase, "plain")
        right = verdict(searcher, self.phrase)
        self.assertTrue(is_right(right))
        state, known, _ = right.rows[0]
        for shut in (1, 2, -1, True):
            self.assertFalse(is_right(Right(searcher, self.phrase, "all", list(right.rows) + [(state, known, shut)])))

    def test_rows_at_which_it_goes_wrong(self):
        # Known rows at which the phrase can stand where the searcher does not tell it.
        wrong = (0, (-1, -1, -1, -1), 1)
        self.assertIs(self.told(list(self.right.rows) + [wrong]), False)

    def test_other_fields(self):
        for value in [None, True, 0, "x", [], {}, self.phrase]:
            self.assertIs(is_right(Right(value, self.phrase, "apart", self.right.rows)), False)
        for value in [None, True, 0, "x", [], {}, self.searcher]:
            self.assertIs(is_right(Right(self.searcher, value, "apart", self.right.rows)), False)

    def test_searchers_that_are_wrong(self):
        rng = random.Random(44)
        for number in range(100):
            phrase = random_phrase(rng, 2, rng.randint(1, 3))
            wish = WISHES[number % 2]
            searcher = bent_searcher(rng, phrase, rng.choice(["plain", "all knowledge"]), wish)
            rows = rows_that_come_up(searcher, wish == "apart")
            self.assertIs(is_right(Right(searcher, phrase, wish, rows)), isinstance(verdict(searcher, phrase, wish), Right))

    def test_results_copy(self):
        rows = [[0, [-1], 0]]
        told = Right(1, [2], "x", rows)
        rows[0][1].append(7)
        self.assertEqual((told.searcher, told.phrase, told.wish, told.rows), (1, (2,), "x", ((0, (-1,), 0),)))
        told = Wrong(None, {"a": [1]}, 3, [1, [2]])
        self.assertEqual((told.searcher, told.phrase, told.wish, told.row), (None, {"a": (1,)}, 3, (1, (2,))))


if __name__ == "__main__":
    unittest.main()
