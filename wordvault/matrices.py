"""Matrices modulo a number: tuples of rows, tuples of integers."""


def product(modulus, one, other):
    """The product of two matrices."""
    columns = [tuple([row[place] for row in other]) for place in range(len(other[0]))]
    return tuple([tuple([sum([left * right for left, right in zip(row, column)]) % modulus for column in columns])
                  for row in one])


def applied(modulus, matrix, row):
    """The product of a matrix and a row as a column: a row."""
    return tuple([sum([left * right for left, right in zip(line, row)]) % modulus for line in matrix])


def identity(size):
    """The matrix that changes nothing."""
    return tuple([tuple([1 if place == line else 0 for place in range(size)]) for line in range(size)])


def power(modulus, matrix, many):
    """The product of so many of a matrix."""
    told = identity(len(matrix))
    square = matrix
    while many > 0:
        if many & 1:
            told = product(modulus, told, square)
        many >>= 1
        if many:
            square = product(modulus, square, square)
    return told


def undone(modulus, matrix):
    """The matrix whose products with it are the identity; None if there is none.

    Rows are taken from one another as often as they go, so that one number is left of each
    column: the product of these numbers is 1 or -1 times the determinant, which must have an inverse.
    """
    size = len(matrix)
    rows = [[number % modulus for number in row] + list(beside) for row, beside in zip(matrix, identity(size))]
    for column in range(size):
        for line in range(column + 1, size):
            while rows[line][column]:
                times = rows[column][column] // rows[line][column]
                rows[column], rows[line] = rows[line], less(modulus, rows[column], times, rows[line])
        inverse = inverse_of(modulus, rows[column][column])
        if inverse is None:
            return None
        rows[column] = [number * inverse % modulus for number in rows[column]]
        for line in range(size):
            if line != column:
                rows[line] = less(modulus, rows[line], rows[line][column], rows[column])
    return tuple([tuple(row[size:]) for row in rows])


def less(modulus, row, times, other):
    """A row less so many times another one."""
    return [(number - times * more) % modulus for number, more in zip(row, other)]


def inverse_of(modulus, number):
    """The number whose product with this one is 1; None if there is none."""
    low, high = number, modulus
    factor, other = 1, 0
    while low > 1:
        times = high // low
        low, high = high - times * low, low
        factor, other = other - times * factor, factor
    return factor % modulus if low == 1 else None
