"""Promise 50: matrices modulo a number."""

import itertools
import random
import time
import unittest

from wordvault.matrices import applied, identity, power, product, undone

MODULI = [2, 3, 4, 5, 6, 8, 9, 12, 97, 2 ** 16, 10 ** 18, 10 ** 18 - 11, 2 ** 61 - 1, 6 ** 20, 10 ** 40]


def random_matrix(rng, height, width, most=10 ** 20):
    return tuple(tuple(rng.randint(-most, most) for _ in range(width)) for _ in range(height))


def product_told(modulus, one, other):
    return tuple(tuple(sum(one[row][at] * other[at][column] for at in range(len(other))) % modulus
                       for column in range(len(other[0]))) for row in range(len(one)))


def determinant(matrix):
    if not matrix:
        return 1
    return sum((-1) ** at * matrix[0][at] * determinant([row[:at] + row[at + 1:] for row in matrix[1:]])
               for at in range(len(matrix)))


class MatricesTest(unittest.TestCase):
    def test_products(self):
        rng = random.Random(91)
        for _ in range(200):
            modulus = rng.choice(MODULI)
            height, amid, width = rng.randint(1, 4), rng.randint(1, 4), rng.randint(1, 4)
            one, other = random_matrix(rng, height, amid), random_matrix(rng, amid, width)
            told = product(modulus, one, other)
            self.assertEqual(told, product_told(modulus, one, other))
            self.assertIsInstance(told, tuple)
            self.assertIsInstance(told[0], tuple)
            row = random_matrix(rng, 1, amid)[0]
            self.assertEqual(applied(modulus, one, row), tuple(line[0] for line in product(modulus, one, tuple(zip(row)))))
        self.assertEqual(product(5, ((-1,),), ((7, -7),)), ((3, 2),))
        self.assertEqual(applied(5, ((-1, 10 ** 40),), (7, 0)), (3,))

    def test_identity(self):
        self.assertEqual([identity(size) for size in (1, 2, 3)],
                         [((1,),), ((1, 0), (0, 1)), ((1, 0, 0), (0, 1, 0), (0, 0, 1))])

    def test_powers(self):
        rng = random.Random(92)
        for _ in range(60):
            modulus = rng.choice(MODULI)
            size = rng.randint(1, 4)
            matrix = random_matrix(rng, size, size)
            told = identity(size)
            for many in range(9):
                self.assertEqual(power(modulus, matrix, many), told)
                told = product_told(modulus, told, matrix)
            great = 10 ** 30
            self.assertEqual(product(modulus, power(modulus, matrix, great), power(modulus, matrix, 7)),
                             power(modulus, matrix, great + 7))
        self.assertEqual(power(10, ((-1,),), 1), ((9,),))
        self.assertEqual(power(7, ((3,),), 10 ** 30), ((pow(3, 10 ** 30, 7),),))
        self.assertEqual(power(2, ((4, 2), (0, 6)), 0), ((1, 0), (0, 1)))

    def test_undone_held_against_all_matrices(self):
        for modulus in (2, 3, 4, 6):
            for numbers in itertools.product(range(modulus), repeat=4):
                matrix = (numbers[:2], numbers[2:])
                told = undone(modulus, matrix)
                wished = determinant(matrix) % modulus
                if any(wished * number % modulus == 1 for number in range(modulus)):
                    self.assertEqual(product(modulus, matrix, told), identity(2))
                    self.assertEqual(product(modulus, told, matrix), identity(2))
                    self.assertTrue(all(0 <= number < modulus for row in told for number in row))
                else:
                    self.assertIsNone(told)

    def test_undone(self):
        rng = random.Random(93)
        kinds = {True: 0, False: 0}
        for _ in range(200):
            modulus = rng.choice(MODULI)
            size = rng.randint(1, 5)
            matrix = random_matrix(rng, size, size, rng.choice([3, 10 ** 20]))
            told = undone(modulus, matrix)
            low, high = determinant(matrix) % modulus, modulus
            while low:
                low, high = high % low, low
            kinds[told is None] += 1
            self.assertEqual(told is None, high != 1)
            if told is not None:
                self.assertEqual(product(modulus, matrix, told), identity(size))
                self.assertEqual(product(modulus, told, matrix), identity(size))
        self.assertGreater(min(kinds.values()), 30)
        self.assertEqual(undone(10, ((-3,),)), ((3,),))
        self.assertIsNone(undone(10, ((0,),)))
        self.assertIsNone(undone(10, ((15,),)))

    def test_sixteen_rows(self):
        began = time.time()
        rng = random.Random(94)
        for modulus in (2, 10 ** 18, 10 ** 18 - 11):
            many = 0
            while many < 2:
                matrix = random_matrix(rng, 16, 16, 10 ** 18)
                told = undone(modulus, matrix)
                if told is not None:
                    self.assertEqual(product(modulus, matrix, told), identity(16))
                    self.assertEqual(product(modulus, power(modulus, matrix, 10 ** 30), power(modulus, told, 10 ** 30)),
                                     identity(16))
                    many += 1
        self.assertLess(time.time() - began, 60)


if __name__ == "__main__":
    unittest.main()
