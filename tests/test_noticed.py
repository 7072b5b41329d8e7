"""Promises 10 and 60: is each damage noticed, for all texts?"""

import random
import unittest

from tests.coders import read_plainly
from tests.helpers import NO_INTEGERS, raised
from tests.layers import first_told, places_of_damage, random_judged, rows_told, steps_told, texts_by_bits
from tests.test_layouts import notice_told, turned_told
from wordvault.codes import Code
from wordvault.damages import Burst, Damage, Faded, Turned
from wordvault.guards import Guard, remainder
from wordvault.layouts import Layout
from wordvault.machines import Machine
from wordvault.noticed import Noticed, Slipped, is_noticed, is_slipped, judge_damage, row_steps

PARITY = Guard(2, [[1]], [[1]], [0], [0])
CODE = Code([1, 2, 2])


def slips(layout, machine, signs, bits, places):
    """Whether the damage is not noticed, and changes whether it is a text of the machine."""
    if notice_told(layout, bits, places) is not None:
        return False
    wrong = [sign for sign, _ in read_plainly(layout.code, "", turned_told(bits, places))[0]]
    return machine is None or machine.has_text(signs) != machine.has_text(wrong)


def least_slip(layout, damage, machine, most):
    """The fewest bits of a text with such a damage; None if there are none with so few."""
    for signs, bits in texts_by_bits(layout.code, most):
        if any(slips(layout, machine, signs, bits, places) for places in places_of_damage(damage, bits)):
            return len(bits)
    return None


class NoticedTest(unittest.TestCase):
    def test_held_against_all_short_texts(self):
        rng = random.Random(151)
        kinds = {}
        for _ in range(150):
            layout, damage, machine = random_judged(rng)
            told = judge_damage(layout, damage, machine) if machine is not None else judge_damage(layout, damage)
            self.assertEqual((told.layout, told.damage), (layout, damage))
            self.assertTrue(told.machine == machine)
            least = least_slip(layout, damage, machine, 7)
            kinds[type(told).__name__, type(damage).__name__] = True
            if isinstance(told, Noticed):
                self.assertIsNone(least)
                self.assertEqual(told.rows, rows_told(layout, damage, machine))
                self.assertTrue(is_noticed(told))
            else:
                bits = "".join(layout.code.words[sign] for sign in told.signs)
                self.assertTrue(damage.is_of(bits, told.places))
                self.assertTrue(slips(layout, machine, told.signs, bits, told.places))
                self.assertTrue(is_slipped(told))
                self.assertTrue(len(bits) == least if least is not None else len(bits) > 7)
                self.assertFalse(is_noticed(Noticed(layout, damage, machine, rows_told(layout, damage, machine))))
        self.assertEqual(len(kinds), 6)

    def test_is_slipped_over_all_damages(self):
        rng = random.Random(152)
        seen = {}
        for _ in range(40):
            layout, damage, machine = random_judged(rng)
            for signs, bits in texts_by_bits(layout.code, 4):
                for places in places_of_damage(Burst(64), bits):
                    wished = damage.is_of(bits, places) and slips(layout, machine, signs, bits, places)
                    self.assertIs(is_slipped(Slipped(layout, damage, machine, signs, places)), wished)
                    seen[wished] = True
                self.assertIs(is_slipped(Slipped(layout, damage, machine, signs, ())), False)
        self.assertEqual(len(seen), 2)

    def test_steps(self):
        rng = random.Random(153)
        for _ in range(60):
            layout, damage, machine = random_judged(rng)
            for row in rows_told(layout, damage, machine)[:40]:
                told = row_steps(layout, damage, row, machine) if machine is not None else row_steps(layout, damage, row)
                self.assertEqual(told, steps_told(layout, damage, row, machine))

    def test_bounds_and_errors(self):
        layout, two = Layout(CODE, PARITY, None), Machine(2, [(0, [])], 0, [])
        first = first_told(layout, Turned(1), None)
        self.assertEqual(raised(row_steps, layout, Turned(1), first, two), ("OtherSigns",))
        self.assertEqual(raised(judge_damage, layout, Turned(1), two), ("OtherSigns",))
        self.assertEqual(raised(is_noticed, Noticed(layout, Turned(1), two, ())), ("OtherSigns",))
        self.assertEqual(raised(is_slipped, Slipped(layout, Turned(1), two, (), ())), ("OtherSigns",))
        # A slip comes up among the first rows, but more than 2,000 rows do.
        great = Layout(CODE, Guard(2, [[1]], [[0]], [0], [0]), 1000)
        self.assertEqual(raised(judge_damage, great, Turned(64)), ("TooMany", "rows", 2001, 2000))
        self.assertTrue(is_slipped(Slipped(great, Turned(64), None, (1,), (1,))))
        wide = Layout(CODE, remainder(16, 0x1021), None)
        self.assertEqual(raised(judge_damage, wide, Turned(2)), ("TooMany", "rows", 2001, 2000))
        small = Layout(CODE, remainder(10, 9), None)
        told = judge_damage(small, Burst(10))
        self.assertIsInstance(told, Noticed)
        self.assertEqual(len(told.rows), len(rows_told(small, Burst(10), None)))

    def test_a_burst_that_a_remainder_finds(self):
        for width, polynomial in ((3, 3), (4, 3), (5, 5)):
            layout = Layout(Code([1, 2, 3, 3]), remainder(width, polynomial), 20)
            self.assertIsInstance(judge_damage(layout, Burst(width)), Noticed)

    def test_rows_of_any_kind(self):
        machine = Machine(3, [(0, [(1, 1, 1)]), (1, [(1, 1, 0)])], 0, [1])
        for layout, looked_at in [(Layout(CODE, PARITY, None), machine), (Layout(CODE, remainder(2, 3), 2), None)]:
            damage = Turned(2) if looked_at is not None else Turned(1)
            rows = list(judge_damage(layout, damage, looked_at).rows)

            def told(value):
                return is_noticed(Noticed(layout, damage, looked_at, value))

            self.assertTrue(told(rows))
            self.assertTrue(told(rows[::-1] + rows))
            self.assertTrue(told([list(row) for row in rows]))
            for at in range(len(rows)):
                self.assertFalse(told(rows[:at] + rows[at + 1:]))
            for value in NO_INTEGERS + [7, "rows"]:
                self.assertIs(told(value), False)
                self.assertIs(told(rows + [value]), False)
            place, right, wrong, difference, left, states = rows[-1]
            for bent in [(place, right, wrong, difference, left), (place, right, wrong, difference, left, states, 0),
                         (2, right, wrong, difference, left, states), (-1, right, wrong, difference, left, states),
                         (False, right, wrong, difference, left, states), (None, right, wrong, difference, left, states),
                         (place, "10", wrong, difference, left, states), (place, right, None, difference, left, states),
                         (place, right, wrong, difference + (0,), left, states), (place, right, wrong, (2,) * len(difference), left, states),
                         (place, right, wrong, (True,) * len(difference), left, states), (place, right, wrong, 0, left, states),
                         (place, right, wrong, difference, damage.first_left + 1, states), (place, right, wrong, difference, -1, states),
                         (place, right, wrong, difference, None, states), (place, right, wrong, difference, left, None),
                         (place, right, wrong, difference, left, (0,)), (place, right, wrong, difference, left, (0, 2)),
                         (place, right, wrong, difference, left, (0, True) if states else (0, 0))]:
                self.assertIs(told(rows + [bent]), False, bent)

    def test_more_rows(self):
        # A row that does not come up: nothing is left, but the states of the guard differ. It leads nowhere.
        layout = Layout(CODE, PARITY, None)
        rows = list(judge_damage(layout, Turned(1)).rows)
        self.assertTrue(is_noticed(Noticed(layout, Turned(1), None, rows + [(0, "1", "", (1,), 0, ())])))
        self.assertFalse(is_noticed(Noticed(layout, Turned(1), None, rows + [(0, "", "", (0,), 0, ())])))

    def test_fields_of_any_kind(self):
        layout = Layout(CODE, PARITY, None)
        fine = judge_damage(layout, Turned(2))
        self.assertEqual((fine.signs, fine.places), ((0, 0), (0, 1)))
        rows = judge_damage(layout, Turned(1)).rows
        for value in NO_INTEGERS + [7, CODE, Damage()]:
            self.assertIs(is_slipped(Slipped(value, Turned(2), None, (0, 0), (0, 1))), False)
            self.assertIs(is_slipped(Slipped(layout, value, None, (0, 0), (0, 1))), False)
            self.assertIs(is_noticed(Noticed(value, Turned(1), None, rows)), False)
            self.assertIs(is_noticed(Noticed(layout, value, None, rows)), False)
            if value is not None:
                self.assertIs(is_slipped(Slipped(layout, Turned(2), value, (0, 0), (0, 1))), False)
                self.assertIs(is_noticed(Noticed(layout, Turned(1), value, rows)), False)
        for value in NO_INTEGERS + [7, (0,), (0, 3), (0, True), (0, None), (1,), "00"]:
            self.assertIs(is_slipped(Slipped(layout, Turned(2), None, value, (0, 1))), False)
        for value in NO_INTEGERS + [7, (0,), (1, 0), (0, 0), (0, 2), (0, True), (0, 1, 2), "01"]:
            self.assertIs(is_slipped(Slipped(layout, Turned(2), None, (0, 0), value)), False)
        self.assertTrue(is_slipped(Slipped(layout, Turned(2), None, [0, 0], [0, 1])))
        self.assertTrue(is_slipped(Slipped(layout, Turned(2), None, (0,) * 20000, (0, 1))))
        self.assertTrue(is_slipped(Slipped(layout, Faded(2), None, (2,), (0, 1))))
        self.assertFalse(is_slipped(Slipped(layout, Faded(2), None, (1, 1), (0, 1))))


if __name__ == "__main__":
    unittest.main()
