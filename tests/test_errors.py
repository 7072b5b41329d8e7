"""Promises 2 and 11: errors."""

import unittest

from wordvault import errors
from wordvault.maps import NumberMap

TOLD = """TooMany(what, many, most) BadMany(many) BadMap(index) BadRange(index) OtherMap() NoNumber(number)
BadLetters(letters) BadWord(index) NoWord(word) NotWord(word) OldWord(word) OtherLetters() BadPart(path) BadMost(most)
BadSigns(signs) BadRule(name) Ring(name) NoRule(root) BadPlace(place) BadSize(size) BadSign(index) BadCount(count)
OtherSigns() BadNode(node) BadBits(index) BadRow(state) BadStart(start) BadMark(index) BadState(state)
BadReading(index) BadHow(how) BadSpot(index) BadWish(wish) BadClasses(index) BadWidth(width) BadTree(state)
BadWay(way) Unfit(spot) BadSaid(index) BadTally(index) BadLength(index) NotFull() Begins(index, other)
OtherSize(many, wanted) NotLeast() BadRank(rank) Counted(sign) BadHistory(index) BadModulus(modulus) NotUndone()
BadMatrix(index) BadColumns(index) BadBegin(index) BadEnd(index) BadSymbol(index) BadPolynomial(polynomial)
BadBlock(block) BadTurns(index) OtherGuard() BadKind(kind) UsedWord(word, many) BadDeed(index) Refused(index)
OtherDictionary() NothingToUndo() NothingToRedo()"""


def told_errors():
    for part in TOLD.replace("\n", " ").replace(", ", ",").split():
        name, fields = part[:-1].split("(")
        yield name, [field for field in fields.split(",") if field]


class ErrorsTest(unittest.TestCase):
    def test_all_are_there(self):
        self.assertEqual(len(list(told_errors())), 66)
        for name, fields in told_errors():
            with self.subTest(name):
                kind = getattr(errors, name)
                self.assertEqual(kind.__bases__, (errors.VaultError,))
        self.assertEqual(errors.VaultError.__bases__, (ValueError,))

    def test_fields_by_position_and_by_name(self):
        values = [None, "a", (1, [2]), 10 ** 40, {"a": [1]}, [1, 2], True]
        for number, (name, fields) in enumerate(told_errors()):
            kind = getattr(errors, name)
            given = [values[(number + at) % len(values)] for at in range(len(fields))]
            for error in (kind(*given), kind(**dict(zip(fields, given)))):
                with self.subTest(name):
                    self.assertIsInstance(error, kind)
                    self.assertEqual([getattr(error, field) for field in fields], given)
                    self.assertEqual(vars(error), dict(zip(fields, given)))

    def test_what_is_handed_in_may_change(self):
        value = [1, [2]]
        error = errors.BadMany(value)
        value[1].append(3)
        value.append(4)
        self.assertEqual(error.many, [1, [2]])

    def test_fields_are_needed(self):
        self.assertRaises(TypeError, errors.TooMany, "words", 1)
        self.assertRaises(TypeError, errors.OtherMap, 1)

    def test_an_error_can_be_caught_by_its_bases(self):
        for kind in (errors.BadMany, errors.VaultError, ValueError):
            with self.assertRaises(kind):
                NumberMap(-1, [])
