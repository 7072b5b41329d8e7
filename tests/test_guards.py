"""Promises 9 and 51: guards."""

import random
import time
import unittest

from tests.helpers import NO_INTEGERS, raised
from wordvault.guards import Guard, remainder
from wordvault.matrices import undone

GREAT = 10 ** 18


def random_guard(rng, modulus=None, size=None, width=None):
    """Any guard."""
    modulus = modulus or rng.choice([2, 3, 4, 6, 10, 97, GREAT])
    size = size or rng.randint(1, 3)
    width = width or rng.randint(1, 3)
    while True:
        matrix = [[rng.randrange(modulus) for _ in range(size)] for _ in range(size)]
        if undone(modulus, tuple(map(tuple, matrix))) is not None:
            break
    columns = [[rng.randrange(modulus) for _ in range(width)] for _ in range(size)]
    return Guard(modulus, matrix, columns, [rng.randrange(modulus) for _ in range(size)],
                 [rng.randrange(modulus) for _ in range(size)])


def sum_told(guard, block):
    """The sum, reckoned plainly."""
    state = list(guard.start)
    for symbol in block:
        state = [(sum(guard.matrix[row][at] * state[at] for at in range(guard.size))
                  + sum(guard.columns[row][at] * symbol[at] for at in range(guard.width))) % guard.modulus
                 for row in range(guard.size)]
    return tuple((number + more) % guard.modulus for number, more in zip(state, guard.end))


def register_sum(width, polynomial, bits):
    """The register, bit by bit."""
    register = [0] * width
    for bit in bits:
        turn = (register[0] + bit) % 2
        register = register[1:] + [0]
        if turn:
            register = [(number + (polynomial >> (width - 1 - at))) % 2 for at, number in enumerate(register)]
    return tuple(register)


class GuardsTest(unittest.TestCase):
    def test_sums(self):
        rng = random.Random(95)
        for _ in range(100):
            guard = random_guard(rng)
            for size in range(6):
                block = [tuple(rng.randrange(guard.modulus) for _ in range(guard.width)) for _ in range(size)]
                self.assertEqual(guard.sum_of(block), sum_told(guard, block))
                self.assertEqual(guard.sum_of(tuple(block)), sum_told(guard, block))

    def test_form(self):
        matrix, columns, start, end = [[1, 2], (0, 1)], [[1], [3]], [4, 0], [0, 3]
        guard = Guard(5, matrix, columns, start, end)
        for told in (matrix[0], columns[0], start, end, matrix, columns):
            told.append(7)
        self.assertEqual((guard.modulus, guard.matrix, guard.columns, guard.start, guard.end, guard.size, guard.width),
                         (5, ((1, 2), (0, 1)), ((1,), (3,)), (4, 0), (0, 3), 2, 1))
        same = Guard(5, ((1, 2), (0, 1)), ((1,), (3,)), (4, 0), (0, 3))
        self.assertEqual(guard, same)
        for other in [Guard(7, ((1, 2), (0, 1)), ((1,), (3,)), (4, 0), (0, 3)), Guard(5, ((1, 0), (0, 1)), ((1,), (3,)), (4, 0), (0, 3)),
                      Guard(5, ((1, 2), (0, 1)), ((1,), (2,)), (4, 0), (0, 3)), Guard(5, ((1, 2), (0, 1)), ((1,), (3,)), (4, 1), (0, 3)),
                      Guard(5, ((1, 2), (0, 1)), ((1,), (3,)), (4, 0), (0, 2)), 7, None]:
            self.assertFalse(guard == other)

    def test_errors_in_order(self):
        for value in NO_INTEGERS + [1, 0, -1, GREAT + 1]:
            self.assertEqual(raised(Guard, value, [], None, None, None), ("BadModulus", value))
        for many in (0, 17):
            self.assertEqual(raised(Guard, 2, ["x"] * many, None, None, None), ("TooMany", "numbers", many, 16))
        for value in NO_INTEGERS + [0, [1], [1, 0, 0], [1, 2], [1, -1], [1, True], [1, None], "10", (1,)]:
            self.assertEqual(raised(Guard, 2, [[1, 0], value], None, None, None), ("BadMatrix", 1))
            self.assertEqual(raised(Guard, 2, [value, value], None, None, None), ("BadMatrix", 0))
        self.assertEqual(raised(Guard, 4, [[1, 1], [1, 3]], None, None, None), ("NotUndone",))
        self.assertEqual(raised(Guard, 2, [[0]], None, None, None), ("NotUndone",))
        unit = [[1, 0], [0, 1]]
        for value in NO_INTEGERS + [0, [0], [0, 1, 1], [0, 2], [0, -1], [0, True], "01", [0] * 17]:
            if value != []:
                self.assertEqual(raised(Guard, 2, unit, [[0, 1], value, 7], None, None), ("BadColumns", 1))
        for value in NO_INTEGERS + [0, [0] * 17, [], (), [2], [None]]:
            if value not in ([1], (0,)):
                self.assertEqual(raised(Guard, 2, unit, [value, [0]], None, None), ("BadColumns", 0))
        for many in (0, 1, 3, 20):
            self.assertEqual(raised(Guard, 2, unit, [[1]] * many, None, None), ("BadColumns", many))
        self.assertEqual(raised(Guard, 2, unit, [[1]] * 3 + [7], None, None), ("BadColumns", 3))
        columns = [[0] * 16] * 2
        for value in NO_INTEGERS + [2, -1, GREAT]:
            self.assertEqual(raised(Guard, 2, unit, columns, [0, value, 7], "x"), ("BadBegin", 1))
            self.assertEqual(raised(Guard, 2, unit, columns, [0, 1], [0, value, 7]), ("BadEnd", 1))
        for many in (0, 1, 3):
            self.assertEqual(raised(Guard, 2, unit, columns, [1] * many, "x"), ("BadBegin", many))
            self.assertEqual(raised(Guard, 2, unit, columns, [1, 1], [1] * many), ("BadEnd", many))

    def test_symbols(self):
        guard = Guard(3, [[1]], [[1, 2]], [0], [0])
        for value in NO_INTEGERS + [0, (1,), (1, 2, 0), (1, 3), (1, -1), (1, True), [1, 2], "12", (1, None)]:
            self.assertEqual(raised(guard.sum_of, [(0, 1), value, 7]), ("BadSymbol", 1))
            self.assertEqual(raised(guard.sum_of, [(0, 1), value] + [(0, 0)] * 10000), ("BadSymbol", 1))
        self.assertEqual(guard.sum_of([(1, 0)] * 10000), (10000 % 3,))
        self.assertEqual(raised(guard.sum_of, [(1, 0)] * 10001), ("TooMany", "symbols", 10001, 10000))

    def test_greatest(self):
        began = time.time()
        guard = random_guard(random.Random(96), GREAT, 16, 16)
        block = [tuple(range(at, at + 16)) for at in range(20)]
        self.assertEqual(guard.sum_of(block), sum_told(guard, block))
        self.assertEqual(Guard(2, [[1]], [[1]], [0], [0]).sum_of([]), (0,))
        self.assertLess(time.time() - began, 20)


class RemainderTest(unittest.TestCase):
    def test_each_width(self):
        rng = random.Random(97)
        for width in range(1, 17):
            for polynomial in {1, (1 << width) - 1, rng.randrange(1 << width) | 1}:
                guard = remainder(width, polynomial)
                self.assertEqual((guard.modulus, guard.size, guard.width, guard.start, guard.end),
                                 (2, width, 1, (0,) * width, (0,) * width))
                for size in (0, 1, 2, width, 40):
                    bits = [rng.randint(0, 1) for _ in range(size)]
                    self.assertEqual(guard.sum_of([(bit,) for bit in bits]), register_sum(width, polynomial, bits))
        self.assertEqual(remainder(3, 3), remainder(3, 3))
        self.assertNotEqual(remainder(3, 3), remainder(3, 5))

    def test_errors_in_order(self):
        for value in NO_INTEGERS + [0, -1, 17]:
            self.assertEqual(raised(remainder, value, "x"), ("BadWidth", value))
        for value in NO_INTEGERS + [0, -1, 2, 8, 9, GREAT]:
            self.assertEqual(raised(remainder, 3, value), ("BadPolynomial", value))


if __name__ == "__main__":
    unittest.main()
