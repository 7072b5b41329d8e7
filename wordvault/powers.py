"""Sums of powers of one matrix modulo a number, told by as many numbers as it has rows.

A matrix is a root of its characteristic polynomial (Cayley and Hamilton). So a sum of its powers
is told by a polynomial of a lesser degree: products of such polynomials take fewer steps than
products of matrices. A polynomial is one integer, packed: its coefficients, from 0 to the modulus
less 1, stand one above the other, the lowest one last, in fields of so many bits that no product runs over.
"""

from wordvault.matrices import applied


class Powers:
    """The polynomials of a matrix; unit stands for the identity, root for the matrix itself."""

    def __init__(self, modulus, matrix):
        self.modulus = modulus
        self.matrix = matrix
        self.size = len(matrix)
        self.bits = (2 * self.size * modulus * modulus).bit_length()
        self.field = (1 << self.bits) - 1
        self.low = (1 << self.bits * self.size) - 1
        self.unit = 1
        # What the powers from the size on are told by, as many as come up in a product.
        told = [-number for number in characteristic(matrix)]
        self.folds = [self.packed(told)]
        self.root = 1 << self.bits if self.size > 1 else self.folds[0]
        for _ in range(self.size - 1):
            self.folds.append(self.raised(self.folds[-1]))

    def packed(self, numbers):
        """The polynomial with these coefficients, any integers, the lowest one first."""
        told = 0
        for number in numbers[::-1]:
            told = (told << self.bits) + number % self.modulus
        return told

    def numbers(self, polynomial):
        """The coefficients of a packed polynomial, whose fields may be above the modulus."""
        return [(polynomial >> place * self.bits & self.field) % self.modulus for place in range(self.size)]

    def raised(self, polynomial):
        """The product with the matrix."""
        told = polynomial << self.bits
        over = told >> self.bits * self.size
        return self.packed(self.numbers((told & self.low) + over * self.folds[0]))

    def plus(self, one, other):
        """The sum of two polynomials."""
        return self.packed(self.numbers(one + other))

    def times(self, one, other):
        """The product of two polynomials."""
        whole = one * other
        told = whole & self.low
        whole >>= self.bits * self.size
        for fold in self.folds:
            if not whole:
                break
            told += (whole & self.field) % self.modulus * fold
            whole >>= self.bits
        return self.packed(self.numbers(told))

    def applied_to(self, polynomial, row):
        """What the sum of powers makes of a row of numbers."""
        told = [0] * self.size
        for number in self.numbers(polynomial):
            told = [one + number * more for one, more in zip(told, row)]
            row = applied(self.modulus, self.matrix, row)
        return tuple([number % self.modulus for number in told])


def characteristic(matrix):
    """The coefficients of the characteristic polynomial, the lowest one first, the highest one, 1, left out.

    Each one follows from the trace of a product with those that are known (Faddeev and
    LeVerrier): the division leaves no rest, as all are integers.
    """
    size = len(matrix)
    told = [1]
    amid = [[0] * size for _ in matrix]
    for number in range(1, size + 1):
        for place in range(size):
            amid[place][place] += told[-1]
        columns = [[line[place] for line in amid] for place in range(size)]
        amid = [[sum([left * right for left, right in zip(line, column)]) for column in columns] for line in matrix]
        told.append(-sum([amid[place][place] for place in range(size)]) // number)
    return told[:0:-1]
