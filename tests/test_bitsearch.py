"""Promises 53 and 54: search in bits, right or wrong for all texts that are allowed."""

import random
import unittest

from tests.coders import comb, nodes_told, random_code
from tests.helpers import NO_INTEGERS, raised, random_machine, rows_up_to
from wordvault.bitsearch import BitsRight, BitsWrong, bit_search, is_bits_right, is_bits_wrong, judge_bits
from wordvault.codes import Code
from wordvault.machines import Machine
from wordvault.plainbits import plain_search


def numbers(bits):
    return [int(bit) for bit in bits]


def told_in_bits(code, machine, row):
    """The places of bits behind which the machine tells over a row of signs."""
    places, at = [], 0
    for size, sign in enumerate(row, 1):
        at += code.lengths[sign]
        if machine.marked_in(row[:size])[-1:] == (size - 1,):
            places.append(at - 1)
    return places


def bent_searcher(rng, searcher):
    """A searcher with one move or one mark made another one."""
    rows = [list(told) for told in ([target for target in laid(row)] for row in searcher.rows)]
    marks = set(searcher.marks)
    state = rng.randrange(len(rows))
    if rng.random() < 0.5:
        marks ^= {state}
    else:
        rows[state][rng.randrange(2)] = rng.randrange(len(rows))
    return Machine(2, [(zero, [(1, 1, one)]) for zero, one in rows], searcher.start, sorted(marks))


def laid(row):
    away, moves = row
    told = [away, away]
    for first, last, state in moves:
        for sign in range(first, last + 1):
            told[sign] = state
    return told


def rows_that_come_up(code, machine, searcher, rule):
    """The rows that come up, written down plainly; a row is alive if a mark of the rule can be reached."""
    def ends(state):
        seen, todo = {state}, [state]
        while todo:
            at = todo.pop()
            if at in rule.marks:
                return True
            for sign in range(code.size):
                behind = rule.state_behind(at, [sign])
                if behind not in seen:
                    seen.add(behind)
                    todo.append(behind)
        return False

    def alive(row):
        if rule is None:
            return True
        if row[2] == "":
            return ends(row[0])
        return any(word.startswith(row[2]) and ends(rule.state_behind(row[0], [sign])) for sign, word in enumerate(code.words))

    first = (None if rule is None else rule.start, machine.start, "", searcher.start)
    seen, todo = ({first}, [first]) if alive(first) else (set(), [])
    while todo:
        left, state, node, at = todo.pop()
        for bit in "01":
            found = searcher.state_behind(at, [int(bit)])
            if node + bit in code.words:
                sign = code.words.index(node + bit)
                behind = (None if rule is None else rule.state_behind(left, [sign]), machine.state_behind(state, [sign]), "", found)
            else:
                behind = (left, state, node + bit, found)
            if behind not in seen and alive(behind):
                seen.add(behind)
                todo.append(behind)
    return tuple(sorted(seen, key=lambda row: (-1 if row[0] is None else row[0],) + row[1:]))


def least_wrong(code, machine, searcher, rule, most):
    """The fewest bits of an allowed text behind which just one tells; None if there are none in short texts."""
    best = None
    for row in rows_up_to(code.size, most):
        if rule is None or rule.has_text(row):
            bits = "".join(code.words[sign] for sign in row)
            told, found = told_in_bits(code, machine, row), searcher.marked_in(numbers(bits))
            for place in range(len(bits)):
                if (place in told) != (place in found) and (best is None or place + 1 < best):
                    best = place + 1
    return best


class BitSearchTest(unittest.TestCase):
    def test_tells_where_signs_end(self):
        rng = random.Random(111)
        for _ in range(60):
            code = random_code(rng, rng.randint(2, 5))
            machine = random_machine(rng, code.size, rng.randint(1, 4))
            searcher = bit_search(code, machine)
            for row in rows_up_to(code.size, 4):
                bits = "".join(code.words[sign] for sign in row)
                told = told_in_bits(code, machine, row)
                self.assertEqual(list(searcher.marked_in(numbers(bits))), told)
                for size in range(len(bits)):
                    self.assertEqual(list(searcher.marked_in(numbers(bits[:size]))), [place for place in told if place < size])

    def test_states_in_their_order(self):
        rng = random.Random(112)
        for _ in range(40):
            code = random_code(rng, rng.randint(2, 5))
            machine = random_machine(rng, code.size, rng.randint(1, 4))
            order, rows = [(machine.start, "")], []
            for state, node in order:
                row = []
                for bit in "01":
                    behind = (state, node + bit)
                    if node + bit in code.words:
                        behind = (machine.state_behind(state, [code.words.index(node + bit)]), "")
                    if behind not in order:
                        order.append(behind)
                    row.append(order.index(behind))
                rows.append(row)
            marks = [at for at, (state, node) in enumerate(order) if node == "" and state in machine.marks]
            self.assertEqual(bit_search(code, machine),
                             Machine(2, [(zero, [(1, 1, one)]) for zero, one in rows], 0, marks))

    def test_bounds(self):
        code = Code([1, 2, 2])
        self.assertEqual(raised(bit_search, code, Machine(2, [(0, [])], 0, [])), ("OtherSigns",))
        ring = [((state + 1) % 1000, []) for state in range(1000)]
        self.assertEqual(len(bit_search(code, Machine(3, ring, 0, [])).rows), 2000)
        ring = [((state + 1) % 1001, []) for state in range(1001)]
        self.assertEqual(raised(bit_search, code, Machine(3, ring, 0, [])), ("TooMany", "states", 2001, 2000))
        self.assertEqual(len(bit_search(comb(2000), Machine(2000, [(0, [])], 0, [0])).rows), 1999)


class JudgeBitsTest(unittest.TestCase):
    def some(self, seed, many):
        rng = random.Random(seed)
        for number in range(many):
            code = random_code(rng, rng.randint(2, 4))
            machine = random_machine(rng, code.size, rng.randint(1, 3))
            searcher = bit_search(code, machine)
            if number % 4:
                searcher = bent_searcher(rng, searcher)
            rule = None if number % 3 == 0 else random_machine(rng, code.size, rng.randint(1, 3))
            yield rng, code, machine, searcher, rule

    def test_held_against_all_short_texts(self):
        kinds = {}
        for rng, code, machine, searcher, rule in self.some(113, 300):
            told = judge_bits(code, machine, searcher, rule) if rule is not None else judge_bits(code, machine, searcher)
            self.assertEqual((told.code, told.machine, told.searcher), (code, machine, searcher))
            self.assertTrue(told.rule == rule)
            least = least_wrong(code, machine, searcher, rule, 5)
            kinds[isinstance(told, BitsRight), rule is None] = True
            if isinstance(told, BitsRight):
                self.assertIsNone(least)
                self.assertEqual(told.rows, rows_that_come_up(code, machine, searcher, rule))
                self.assertTrue(is_bits_right(told))
            else:
                self.assertTrue(is_bits_wrong(told))
                self.assertTrue(rule is None or rule.has_text(told.text))
                bits = "".join(code.words[sign] for sign in told.text)
                self.assertTrue(bits.startswith(told.bits))
                place = len(told.bits) - 1
                self.assertNotEqual(place in told_in_bits(code, machine, told.text),
                                    place in searcher.marked_in(numbers(told.bits)))
                if least is not None:
                    self.assertLessEqual(len(told.bits), least)
                    if least <= 5 * min(code.lengths):
                        self.assertEqual(len(told.bits), least)
                self.assertFalse(is_bits_right(BitsRight(code, machine, searcher, rule,
                                                         rows_that_come_up(code, machine, searcher, rule))))
        self.assertEqual(len(kinds), 4)

    def test_no_text_is_allowed(self):
        code = Code([1, 2, 2])
        machine, none = Machine(3, [(0, [])], 0, [0]), Machine(3, [(0, [])], 0, [])
        told = judge_bits(code, machine, plain_search(code, [1]), none)
        self.assertEqual((type(told), told.rows), (BitsRight, ()))
        self.assertTrue(is_bits_right(told))
        only = Machine(3, [(1, []), (1, [])], 0, [0])
        told = judge_bits(code, machine, plain_search(code, [1]), only)
        self.assertEqual(told.rows, ((0, 0, "", 0),))

    def test_bounds_and_errors(self):
        code = Code([1, 2, 2])
        three, two = Machine(3, [(0, [])], 0, [0]), Machine(2, [(0, [])], 0, [0])
        for given in [(two, two, None), (three, three, None), (three, two, two), (two, three, two)]:
            self.assertEqual(raised(judge_bits, code, *given), ("OtherSigns",))
            self.assertEqual(raised(is_bits_right, BitsRight(code, *given, ())), ("OtherSigns",))
            self.assertEqual(raised(is_bits_wrong, BitsWrong(code, *given, "0", (0,))), ("OtherSigns",))
        ring = [((state + 1) % 1000, []) for state in range(1000)]
        machine = Machine(3, ring, 0, [])
        searcher = Machine(2, [(0, [])], 0, [])
        self.assertEqual(len(judge_bits(code, machine, searcher).rows), 2000)
        machine = Machine(3, ring + [(0, [])], 1000, [])
        self.assertEqual(raised(judge_bits, code, machine, searcher), ("TooMany", "rows", 2001, 2000))
        self.assertTrue(is_bits_right(BitsRight(code, machine, searcher, None,
                                                rows_that_come_up(code, machine, searcher, None))))

    def test_rows_of_any_kind(self):
        code = Code([1, 2, 2])
        machine = Machine(3, [(0, [(1, 1, 1)]), (0, [(1, 1, 1)])], 0, [1])
        searcher = bit_search(code, machine)
        for rule in (None, Machine(3, [(0, [(0, 0, 1)]), (1, [])], 0, [0])):
            rows = list(judge_bits(code, machine, searcher, rule).rows)

            def told(value):
                return is_bits_right(BitsRight(code, machine, searcher, rule, value))

            self.assertTrue(told(rows[::-1] + rows))
            for at in range(len(rows)):
                self.assertFalse(told(rows[:at] + rows[at + 1:]))
            for value in NO_INTEGERS + [7, "rows"]:
                self.assertIs(told(value), False)
                self.assertIs(told(rows + [value]), False)
            first = rows[0][0]
            for bent in [rows[0][:3], rows[0] + (0,), (first, 2, "", 0), (first, 0, "0", 0), (first, 0, "10", 0), (first, 0, None, 0),
                         (first, 0, "", 99), (first, 0, "", -1), (first, True, "", 0), (first, 0, "", None), (9, 0, "", 0),
                         (False, 0, "", 0), (0 if rule is None else None, 0, "", 0), ((), 0, "", 0)]:
                self.assertIs(told(rows + [bent]), False, bent)

    def test_more_rows(self):
        # A rule that never comes to its second half: rows that are not alive lead nowhere.
        code = Code([1, 2, 2])
        machine = Machine(3, [(0, [])], 0, [])
        rule = Machine(3, [(0, [(1, 1, 1)]), (1, [])], 0, [0])
        searcher = Machine(2, [(0, [(1, 1, 1)]), (0, [(1, 1, 0)]), (2, [])], 0, [2])
        right = judge_bits(code, machine, searcher, rule)
        self.assertTrue(is_bits_right(right))
        self.assertTrue(is_bits_right(BitsRight(code, machine, searcher, rule, right.rows + ((1, 0, "", 0), (1, 0, "1", 2)))))
        self.assertFalse(is_bits_right(BitsRight(code, machine, searcher, rule, right.rows + ((0, 0, "", 2),))))

    def test_fields_of_wrong(self):
        code = Code([1, 2, 2])
        machine = Machine(3, [(0, [(1, 1, 1)]), (0, [(1, 1, 1)])], 0, [1])
        searcher, rule = Machine(2, [(0, [])], 0, []), Machine(3, [(0, [(0, 0, 1)]), (1, [])], 0, [0])
        told = judge_bits(code, machine, searcher, rule)
        self.assertEqual(told.bits, "10")
        for bits, text, wished in [("10", (1,), True), ("10", (1, 2), True), ("1110", (2, 1), True), ("1110", [2, 1, 1], True),
                                   ("1", (1,), False), ("", (1,), False), ("11", (2,), False), ("10", (0, 1), False),
                                   ("10", (1, 0), False), ("10", (2,), False), ("10", (), False), ("10", (3,), False),
                                   ("10", (True,), False), ("101", (1,), False), ("1010", (1, 1), True)]:
            self.assertIs(is_bits_wrong(BitsWrong(code, machine, searcher, rule, bits, text)), wished, (bits, text))
        for value in NO_INTEGERS + [7, "2", "1x"]:
            self.assertIs(is_bits_wrong(BitsWrong(code, machine, searcher, rule, value, (1,))), False)
            if value != [1]:
                self.assertIs(is_bits_wrong(BitsWrong(code, machine, searcher, rule, "10", value)), False)
        for value in NO_INTEGERS + [7]:
            for at in range(4):
                fields = [code, machine, searcher, rule]
                if at == 3 and value is None:
                    continue
                fields[at] = value
                self.assertIs(is_bits_wrong(BitsWrong(*fields, "10", (1,))), False)
                self.assertIs(is_bits_right(BitsRight(*fields, ())), False)
        self.assertEqual(nodes_told(code), ["", "1"])


if __name__ == "__main__":
    unittest.main()
