"""Promises 56 and 57: searchers that are begun late, and searchers that tell early."""

import itertools
import random
import unittest

from tests.coders import comb, nodes_told, random_code
from tests.helpers import NO_INTEGERS, raised, random_machine, rows_up_to
from wordvault.codes import Code
from wordvault.latebits import Late, is_late, last_unlike, soonest_search
from wordvault.machines import Machine

CODE = Code([1, 2, 2])
FIRST = Machine(3, [(2, [(1, 1, 1)]), (2, []), (2, [])], 0, [1])
PHRASE = Machine(3, [(0, [(1, 1, 1)]), (0, [(1, 1, 1), (2, 2, 2)]), (0, [(1, 1, 1)])], 0, [2])


def step_told(code, machine, standing, bit):
    """A standing behind a bit, and whether the machine tells there."""
    state, node = standing
    if node + bit not in code.words:
        return (state, node + bit), False
    if state == -1:
        return (machine.start, ""), False
    state = machine.state_behind(state, [code.words.index(node + bit)])
    return (state, ""), state in machine.marks


def unlike_told(code, machine, node, bits):
    """The numbers of bits behind which just one of the right and the late searcher tells, and the last pair."""
    right, late = (-1, node), (machine.start, "")
    unlike = []
    for number, bit in enumerate(bits, 1):
        right, one = step_told(code, machine, right, bit)
        late, other = step_told(code, machine, late, bit)
        if one != other:
            unlike.append(number)
    return unlike, (right, late)


def pairs_told(code, machine, node):
    """All pairs that come up, and the steps of each one: (pair behind, whether the tell is unlike)."""
    first = ((-1, node), (machine.start, ""))
    steps, todo = {}, [first]
    while todo:
        pair = todo.pop()
        if pair not in steps:
            steps[pair] = []
            for bit in "01":
                right, one = step_told(code, machine, pair[0], bit)
                late, other = step_told(code, machine, pair[1], bit)
                steps[pair].append(((right, late), one != other))
                todo.append((right, late))
    return steps


def heights_told(steps):
    """The heights of all pairs by many rounds; None if they never come to an end."""
    heights = {pair: 0 for pair in steps}
    for _ in range(len(steps) + 2):
        more = {}
        for pair, row in steps.items():
            more[pair] = max(heights[behind] + 1 if heights[behind] else int(unlike) for behind, unlike in row)
        if more == heights:
            return heights
        heights = more
    return None


class LastUnlikeTest(unittest.TestCase):
    def some(self, seed, many):
        rng = random.Random(seed)
        for number in range(many):
            code = random_code(rng, rng.randint(3, 5))
            machine = random_machine(rng, code.size, rng.randint(1, 3))
            if number % 2:
                # Each sign leads to a later state, the last one tells nothing: so there is an end of tells.
                rows = [(rng.randint(state + 1, 3), [(sign, sign, rng.randint(state + 1, 3)) for sign in range(code.size)])
                        for state in range(3)]
                machine = Machine(code.size, rows + [(3, [])], 0, [state for state in (1, 2) if rng.random() < 0.7])
            for node in nodes_told(code)[1:]:
                yield rng, code, machine, node

    def test_held_against_all_short_rows(self):
        kinds = {}
        for _, code, machine, node in self.some(131, 60):
            late = last_unlike(code, machine, node)
            self.assertEqual((late.code, late.machine, late.node), (code, machine, node))
            self.assertTrue(is_late(late))
            heights = heights_told(pairs_told(code, machine, node))
            greatest = max(max(unlike_told(code, machine, node, bits)[0], default=0) for bits in itertools.product("01", repeat=9))
            if late.most is None:
                self.assertIsNone(heights)
                kinds["endless"] = True
                self.assertEqual(late.heights, ())
                pair = unlike_told(code, machine, node, late.bits)[1]
                self.assertEqual(unlike_told(code, machine, node, late.bits + late.ring)[1], pair)
                for many in (0, 1, 2, 5):
                    bits = late.bits + late.ring * many + late.back
                    self.assertEqual(unlike_told(code, machine, node, bits)[0][-1], len(bits))
            else:
                kinds[min(late.most, 1)] = True
                self.assertEqual((len(late.bits), late.ring, late.back), (late.most, "", ""))
                self.assertEqual(max(unlike_told(code, machine, node, late.bits)[0], default=0), late.most)
                if late.most <= 9:
                    self.assertEqual(greatest, late.most)
                told = tuple(sorted((right, behind, height) for (right, behind), height in heights.items()))
                self.assertEqual(late.heights, told)
        self.assertEqual(len(kinds), 3)

    def test_the_start_is_not_told(self):
        # The start is marked: neither it nor the end of the first sign is told by the right one.
        machine = Machine(3, [(0, [])], 0, [0])
        late = last_unlike(CODE, machine, "1")
        # Any bit ends the first sign; the late one reads 0, and tells.
        self.assertEqual((late.most is None, is_late(late)), (True, True))
        self.assertEqual(unlike_told(CODE, machine, "1", "0")[0], [1])

    def test_bounds_and_errors(self):
        two = Machine(2, [(0, [])], 0, [])
        self.assertEqual(raised(last_unlike, CODE, two, "x"), ("OtherSigns",))
        self.assertEqual(raised(is_late, Late(CODE, two, "x", 0, "", "", "", ())), ("OtherSigns",))
        for value in NO_INTEGERS + [7, "0", "10", "11", "1 ", ["1"]]:
            if value != "1":
                self.assertEqual(raised(last_unlike, CODE, PHRASE, value), ("BadNode", value))
                self.assertEqual(raised(is_late, Late(CODE, PHRASE, value, 0, "", "", "", ()))[0], "BadNode")
        ring = Machine(3, [((state + 1) % 1100, []) for state in range(1100)], 0, [])
        self.assertEqual(raised(last_unlike, CODE, ring, "1"), ("TooMany", "pairs", 2001, 2000))
        fine = last_unlike(comb(600), Machine(600, [(0, [])], 0, []), "1")
        self.assertEqual((fine.most, fine.bits, is_late(fine)), (0, "", True))

    def test_fields_of_any_kind(self):
        late = last_unlike(CODE, FIRST, "1")
        self.assertEqual(late.most, 3)

        def told(most=late.most, bits=late.bits, ring="", back="", heights=late.heights):
            return is_late(Late(CODE, FIRST, "1", most, bits, ring, back, heights))

        self.assertTrue(told())
        self.assertTrue(told(heights=[list(row) for row in late.heights[::-1]]))
        for value in NO_INTEGERS + [-1, 2, 4]:
            self.assertIs(told(most=value), False)
        for value in NO_INTEGERS + [0, "111", "01", "0101", "01x", "000"]:
            self.assertIs(told(bits=value), False, value)
            if value != "":
                self.assertIs(told(ring=value), False)
                self.assertIs(told(back=value), False)
        for value in NO_INTEGERS + [7, "heights", late.heights[1:], late.heights[:-1], late.heights + late.heights[:1],
                                    late.heights + (7,), late.heights + (((0, ""), (0, "")),)]:
            self.assertIs(told(heights=value), False, value)
        rows = list(late.heights)
        for at, (right, behind, height) in enumerate(rows):
            for bent in [(right, behind, height - 1), (right, behind, True), (right, behind, None), (right, behind),
                         (behind, right), (right, behind, height, 0), (None, behind, height), ((9, ""), behind, height),
                         (right, (-1, "1"), height), (right, (0, "0"), height), ((-1, ""), behind, height),
                         (right, behind[0], height)]:
                self.assertIs(told(heights=rows[:at] + [bent] + rows[at + 1:]), False, bent)
        # Greater heights are let, but for the first pair; other pairs are let, with what is behind them.
        first = ((-1, "1"), (0, ""))
        more = [(right, behind, height if (right, behind) == first else height) for right, behind, height in rows]
        self.assertTrue(told(heights=more))
        extra = []
        for right, behind in itertools.product(itertools.product((0, 1, 2), ("", "1")), repeat=2):
            if (right, behind) not in [row[:2] for row in rows]:
                extra.append((right, behind, 50))
        self.assertIs(told(heights=rows + extra), False)
        for value in NO_INTEGERS + [7]:
            self.assertIs(is_late(Late(value, FIRST, "1", 3, late.bits, "", "", late.heights)), False)
            self.assertIs(is_late(Late(CODE, value, "1", 3, late.bits, "", "", late.heights)), False)

    def test_other_pairs_and_greater_heights(self):
        for _, code, machine, node in self.some(132, 25):
            late = last_unlike(code, machine, node)
            if late.most is None:
                continue
            steps = pairs_told(code, machine, node)
            for other in nodes_told(code)[1:]:
                steps.update(pairs_told(code, machine, other))
            heights = heights_told(steps)
            if heights is not None:
                rows = [pair + (height,) for pair, height in heights.items()]
                self.assertTrue(is_late(Late(code, machine, node, late.most, late.bits, "", "", rows)))

    def test_endless_fields(self):
        late = last_unlike(CODE, PHRASE, "1")
        self.assertIsNone(late.most)

        def told(bits=late.bits, ring=late.ring, back=late.back, heights=(), most=None):
            return is_late(Late(CODE, PHRASE, "1", most, bits, ring, back, heights))

        self.assertTrue(told())
        self.assertTrue(told(ring=late.ring * 3))
        self.assertTrue(told(bits=late.bits + late.ring))
        for value in NO_INTEGERS + [0, "2", "1x"]:
            if value not in ("", "1"):
                self.assertIs(told(bits=value), False)
            if value != "1":
                self.assertIs(told(ring=value), False)
                self.assertIs(told(back=value), False)
            if value not in ([], ()):
                self.assertIs(told(heights=value), False)
            if value is not None:
                self.assertIs(told(most=value), False)
        self.assertIs(told(back=late.back + "0" * 9), False)
        for bits, ring, back in itertools.product(["", "1", "01"], ["1", "11", "0", "01"], ["011", "1011", "0", "11"]):
            pair = unlike_told(CODE, PHRASE, "1", bits)[1]
            wished = unlike_told(CODE, PHRASE, "1", bits + ring)[1] == pair
            wished = wished and unlike_told(CODE, PHRASE, "1", bits + back)[0][-1:] == [len(bits + back)]
            self.assertIs(told(bits=bits, ring=ring, back=back), wished)


class SoonestTest(unittest.TestCase):
    def test_tells_at_the_first_bit(self):
        rng = random.Random(133)
        for _ in range(80):
            code = random_code(rng, rng.randint(2, 6))
            machine = random_machine(rng, code.size, rng.randint(1, 3))
            searcher = soonest_search(code, machine)
            for row in rows_up_to(code.size, 3):
                bits, told, state = "", [], machine.start
                for sign in row:
                    word = code.words[sign]
                    for size in range(1, len(word) + 1):
                        below = [other for other in range(code.size) if code.words[other].startswith(word[:size])]
                        if all(machine.state_behind(state, [other]) in machine.marks for other in below):
                            told.append(len(bits) + size - 1)
                            break
                    bits += word
                    state = machine.state_behind(state, [sign])
                self.assertEqual(list(searcher.marked_in([int(bit) for bit in bits])), told)

    def test_states_in_their_order(self):
        some = Machine(3, [(0, [(1, 2, 1)]), (0, [(1, 2, 1)])], 0, [1])
        searcher = soonest_search(CODE, some)
        self.assertEqual((searcher.rows, searcher.marks), (((0, ((1, 1, 1),)), (2, ()), (0, ((1, 1, 3),)), (2, ())), (1, 3)))
        # The start is marked: ahead of all bits nothing is told.
        every = soonest_search(CODE, Machine(3, [(0, [])], 0, [0]))
        self.assertEqual((every.start, every.marks, every.marked_in([0, 1, 1, 0])), (0, (1, 2), (0, 1, 3)))
        self.assertEqual(every.rows, ((1, ((1, 1, 2),)), (1, ((1, 1, 2),)), (0, ())))

    def test_bounds_and_errors(self):
        self.assertEqual(raised(soonest_search, CODE, Machine(2, [(0, [])], 0, [])), ("OtherSigns",))
        ring = Machine(3, [((state + 1) % 1001, []) for state in range(1001)], 0, [])
        self.assertEqual(raised(soonest_search, CODE, ring), ("TooMany", "states", 2001, 2000))
        ring = Machine(3, [((state + 1) % 1000, []) for state in range(1000)], 0, [])
        self.assertEqual(len(soonest_search(CODE, ring).rows), 2000)


if __name__ == "__main__":
    unittest.main()
