"""Promise 41: phrases of words."""

import unittest

from tests.helpers import NO_INTEGERS, raised
from wordvault.dictionaries import Dictionary
from wordvault.patterns import Pattern
from wordvault.phrases import Phrase
from wordvault.said import said

SMALL = Dictionary("ab", ["a", "ab", "abb", "b"])
FITS = ("fits", Pattern("ab", ("row", ("*", "b"))))


class SaidTest(unittest.TestCase):
    def test_each_kind(self):
        told = said(SMALL, [("begins", "ab"), ("any",)])
        self.assertEqual(told, Phrase(4, [[(1, 2)], [(0, 3)]]))
        told = said(SMALL, (("word", "b"), FITS, ("begins", ""), ("word", "a"), ("begins", "b")))
        self.assertEqual(told.spots, (((3, 3),), ((1, 3),), ((0, 3),), ((0, 0),), ((3, 3),)))
        odd = ("fits", Pattern("ab", ("either", ("row", ("?",)), ("row", ("?", "?", "?")))))
        self.assertEqual(said(SMALL, [odd]).spots, (((0, 0), (2, 3)),))
        turned = Dictionary("ba", ["a", "ab", "abb", "b", ""])
        self.assertEqual(said(turned, [("word", ""), ("begins", "a"), ("word", "b")]).spots,
                         (((0, 0),), ((2, 4),), ((1, 1),)))

    def test_how_many(self):
        self.assertEqual(said(SMALL, [("any",)] * 10).width, 10)
        for many in (0, 11):
            self.assertEqual(raised(said, SMALL, [7] * many), ("TooMany", "spots", many, 10))

    def test_parts_that_are_none(self):
        wrong = NO_INTEGERS + [0, "any", ["any"], ("any", 1), ("Any",), (None,), ("word",), ("word", "a", "b"), ("begins",),
                               ("fits",), ("fits", 7), ("fits", None), ("fits", ("row", ("*",))), ("word", None), ("word", 0),
                               ("begins", None), ("begins", ["a"]), ("begins", "c"), ("begins", "a" * 201), ("word", ["a"]),
                               ("fits", Pattern("abc", ("row", ("*",)))), ("fits", Pattern("ba", ("row", ("*",)))), ((), "a")]
        lets_none = [("word", "ba"), ("word", ""), ("begins", "ba"), ("begins", "abba"), ("fits", Pattern("ab", ("either",)))]
        for part in wrong + lets_none:
            self.assertEqual(raised(said, SMALL, [("any",), part, 7]), ("BadSaid", 1), part)
        none = Dictionary("ab", [])
        for part in [("any",), ("begins", ""), ("fits", Pattern("ab", ("both",))), ("word", "a")]:
            self.assertEqual(raised(said, none, [part]), ("BadSaid", 0))

    def test_what_is_handed_in_may_change(self):
        parts = [("any",)]
        told = said(SMALL, parts)
        parts.append(7)
        self.assertEqual(told.width, 1)


if __name__ == "__main__":
    unittest.main()
