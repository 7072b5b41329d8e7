"""Promise 61: how many signs a damage can hurt."""

import random
import unittest

from tests.helpers import NO_INTEGERS, raised
from tests.layers import places_of_damage, random_damage, random_layout, rows_told, steps_told, texts_by_bits
from tests.test_layouts import hurt_told, notice_told
from wordvault.codes import Code
from wordvault.damages import Burst, Damage, Faded, Turned
from wordvault.guards import Guard, remainder
from wordvault.harms import Harm, harm, is_harm
from wordvault.layouts import Layout

PARITY = Guard(2, [[1]], [[1]], [0], [0])
CODE = Code([1, 2, 2])


def most_hurt(layout, damage, seen, most):
    """The greatest number of hurt signs over all texts of so many bits."""
    best = 0
    for _, bits in texts_by_bits(layout.code, most):
        for places in places_of_damage(damage, bits):
            if seen or notice_told(layout, bits, places) is None:
                best = max(best, len(hurt_told(layout, bits, places)))
    return best


def heights_told(layout, damage, seen):
    """The heights of all rows, by rounds; None if they do not come to an end."""
    rows = rows_told(layout, damage, None, not seen)
    heights = {row: None for row in rows}
    for row in rows:
        _, right, wrong, difference, left, _ = row
        if right == "" and left < damage.first_left and (seen or (wrong == "" and not any(difference))):
            heights[row] = 0
    steps = {row: steps_told(layout, damage, row, None, not seen) for row in rows}
    for _ in range(len(rows) + 2):
        more = dict(heights)
        for row in rows:
            for _, _, hurts, behind in steps[row]:
                if behind is not None and heights[behind] is not None:
                    more[row] = max(-1 if more[row] is None else more[row], heights[behind] + int(hurts))
        if more == heights:
            return heights
        heights = more
    return None


class HarmsTest(unittest.TestCase):
    def test_held_against_all_short_texts(self):
        rng = random.Random(161)
        kinds = {}
        for number in range(160):
            layout, damage, seen = random_layout(rng, 3), random_damage(rng), number % 2 == 1
            told = harm(layout, damage, seen=True) if seen else harm(layout, damage)
            self.assertEqual((told.layout, told.damage, told.seen), (layout, damage, seen))
            self.assertTrue(is_harm(told))
            heights = heights_told(layout, damage, seen)
            best = most_hurt(layout, damage, seen, 6)
            kinds[None if told.most is None else min(told.most, 2), seen] = True
            if told.most is None:
                self.assertIsNone(heights)
                self.assertEqual(told.table, ())
                self.check_endless(told)
                continue
            self.assertEqual(told.table, tuple(sorted(heights.items())))
            self.assertGreaterEqual(told.most, best)
            self.assertEqual((told.ring, told.back, told.later), ((), (), ()))
            if told.most == 0:
                self.assertEqual((told.front, told.places), ((), ()))
            else:
                self.check_damage(told, told.front, told.places, told.most, told.most)
        self.assertGreater(len(kinds), 5)

    def check_damage(self, told, signs, places, least, most):
        bits = "".join(told.layout.code.words[sign] for sign in signs)
        self.assertTrue(told.damage.is_of(bits, places))
        if not told.seen:
            self.assertIsNone(notice_told(told.layout, bits, places))
        hurt = len(hurt_told(told.layout, bits, places))
        self.assertTrue(least <= hurt and (most is None or hurt <= most))

    def check_endless(self, told):
        self.assertTrue(told.ring)
        for rounds in (0, 1, 2, 5):
            signs = told.front + told.ring * rounds + told.back
            ahead = len("".join(told.layout.code.words[sign] for sign in told.front + told.ring * rounds))
            places = told.places + tuple(ahead + place for place in told.later)
            self.check_damage(told, signs, places, rounds, None)

    def test_endless_harm(self):
        layout = Layout(CODE, PARITY, None)
        for damage, seen in [(Turned(2), False), (Turned(1), True), (Burst(3), True), (Faded(3), True)]:
            told = harm(layout, damage, seen=seen)
            self.assertIsNone(told.most)
            self.check_endless(told)

    def test_bounds(self):
        great = Layout(CODE, Guard(2, [[1]], [[0]], [0], [0]), 1000)
        self.assertEqual(raised(harm, great, Turned(64)), ("TooMany", "rows", 2001, 2000))
        # Without the guard there are few rows, whatever the blocks.
        self.assertIsNone(harm(great, Turned(64), seen=True).most)
        wide = Layout(CODE, remainder(16, 0x1021), None)
        self.assertEqual(raised(harm, wide, Turned(2)), ("TooMany", "rows", 2001, 2000))
        with self.assertRaises(TypeError):
            harm(great, Turned(1), True)

    def test_tables_of_any_kind(self):
        for layout, damage, seen in [(Layout(Code([2] * 4), PARITY, None), Turned(2), False),
                                     (Layout(Code([2] * 4), PARITY, 3), Burst(2), True),
                                     (Layout(Code([2] * 4), PARITY, None), Turned(1), False)]:
            fine = harm(layout, damage, seen=seen)
            self.assertIsNotNone(fine.most)
            rows = list(fine.table)

            def told(table, most=fine.most, front=fine.front, places=fine.places):
                return is_harm(Harm(layout, damage, seen, most, table, front, places, (), (), ()))

            self.assertTrue(told(rows[::-1]))
            self.assertFalse(told(rows + rows[:1]))
            for at, (row, height) in enumerate(rows):
                self.assertFalse(told(rows[:at] + rows[at + 1:]))
                for bent in [(row,), (row, height, 0), [row], (height, row), (row, True), (row, -1), (row, "1"), (row[:5], height),
                             ((9,) + row[1:], height), (row[:2] + ("00",) + row[3:], height), (row[:3] + ((5,),) + row[4:], height),
                             (row[:4] + (99, ()), height), (row[:5] + ((0, 0),), height)]:
                    self.assertIs(told(rows[:at] + [bent] + rows[at + 1:]), False, bent)
                if height is not None and height > 0:
                    self.assertFalse(told(rows[:at] + [(row, height - 1)] + rows[at + 1:]))
                    self.assertFalse(told(rows[:at] + [(row, None)] + rows[at + 1:]))
            if fine.most:
                self.assertFalse(told([(row, None if height is None else height + 1) for row, height in rows]))
            for value in NO_INTEGERS + [7, "table"]:
                self.assertIs(told(value), False)
                self.assertIs(told(rows + [value]), False)
                if value is not None:
                    self.assertIs(told(rows, most=value), False)
            self.assertFalse(told(rows, most=fine.most + 1))
            if fine.most == 0:
                # No way leads to an end: heights of 0 are great enough, too, as no step hurts.
                self.assertEqual([height for _, height in rows], [None] * len(rows))
                self.assertTrue(told([(row, 0) for row, _ in rows]))
                self.assertFalse(told([(row, 1) for row, _ in rows]))
                self.assertFalse(told(rows, front=(0,)))
            else:
                self.assertFalse(told(rows, front=(), places=()))

    def test_texts_of_any_kind(self):
        layout = Layout(Code([2] * 4), PARITY, None)
        fine = harm(layout, Turned(2))
        self.assertEqual(fine.most, 2)

        def told(front, places, ring=(), back=(), later=(), most=2):
            return is_harm(Harm(layout, Turned(2), False, most, fine.table, front, places, ring, back, later))

        self.assertTrue(told((0, 1, 2), (0, 5)))
        self.assertTrue(told([3, 3], [1, 2]))
        for front, places in [((0, 1), (0, 1)), ((0, 1), (0,)), ((0, 1), (2, 0)), ((0, 1), (0, 4)), ((0, 4), (0, 2)), ((), ()),
                              ((0, 1, 2), (0, 2, 4)), ((0,), (0, 2))]:
            self.assertIs(told(front, places), False)
        for value in NO_INTEGERS + [7]:
            self.assertIs(told(value, (0, 2)), False)
            self.assertIs(told((0, 1), value), False)
            if value not in ([], ()):
                for at in range(3):
                    fields = [(), (), ()]
                    fields[at] = value
                    self.assertIs(told((0, 1), (0, 2), *fields), False)
            if value not in (True, False):
                self.assertIs(is_harm(Harm(layout, Turned(2), value, 2, fine.table, (0, 1), (0, 2), (), (), ())), False)
            self.assertIs(is_harm(Harm(value, Turned(2), False, 2, fine.table, (0, 1), (0, 2), (), (), ())), False)
            self.assertIs(is_harm(Harm(layout, value, False, 2, fine.table, (0, 1), (0, 2), (), (), ())), False)
        self.assertIs(is_harm(Harm(layout, Damage(), False, 2, fine.table, (0, 1), (0, 2), (), (), ())), False)

    def test_endless_of_any_kind(self):
        layout = Layout(CODE, PARITY, None)
        fine = harm(layout, Turned(2))

        def told(front=fine.front, places=fine.places, ring=fine.ring, back=fine.back, later=fine.later, table=(), most=None):
            return is_harm(Harm(layout, Turned(2), False, most, table, front, places, ring, back, later))

        self.assertTrue(told())
        # 0 11 .. 11 0: 1 11 .. 11 1 is read as 11 .. 11.
        self.assertTrue(told((0,), (0,), (2,), (0,), (0,)))
        self.assertFalse(told((0,), (0,), (2,), (2,), (0,)))
        self.assertTrue(told(ring=fine.ring * 2))
        self.assertFalse(told(ring=()))
        self.assertFalse(told(table=((0, 0),)))
        self.assertFalse(told(later=(), places=()))
        for value in NO_INTEGERS + [7, (3,), (None,)]:
            if value not in ([], ()):
                self.assertIs(told(table=value), False)
            if value not in ([], (), [1], (0,)):
                for name in ("front", "places", "back", "later"):
                    self.assertIs(told(**{name: value}), False)
            if value not in ([1], (0,)):
                self.assertIs(told(ring=value), False)
        # A ring without a step that hurts: nothing is turned yet.
        self.assertFalse(told((), (), (0,), (0, 0), (0, 1)))


if __name__ == "__main__":
    unittest.main()
