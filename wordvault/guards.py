"""Guards: sums of blocks of symbols."""

from wordvault.checks import is_between, is_list
from wordvault.copies import frozen
from wordvault.errors import (BadBegin, BadColumns, BadEnd, BadMatrix, BadModulus, BadPolynomial, BadSymbol, BadWidth,
                              NotUndone, TooMany)
from wordvault.matrices import applied, undone

MOST_MODULUS = 10 ** 18
MOST_NUMBERS = 16
MOST_SYMBOLS = 10000


class Guard:
    """How each symbol changes the state: v becomes A v + G x."""

    def __init__(self, modulus, matrix, columns, start, end):
        if not is_between(modulus, 2, MOST_MODULUS):
            raise BadModulus(modulus)
        if not 1 <= len(matrix) <= MOST_NUMBERS:
            raise TooMany("numbers", len(matrix), MOST_NUMBERS)
        for index, row in enumerate(matrix):
            if not is_list(row) or not are_numbers(row, len(matrix), modulus):
                raise BadMatrix(index)
        if undone(modulus, matrix) is None:
            raise NotUndone()
        check_columns(columns, len(matrix), modulus)
        wrong = first_wrong_number(start, len(matrix), modulus)
        if wrong is not None:
            raise BadBegin(wrong)
        wrong = first_wrong_number(end, len(matrix), modulus)
        if wrong is not None:
            raise BadEnd(wrong)
        self.modulus = modulus
        self.matrix = frozen(matrix)
        self.columns = frozen(columns)
        self.start = tuple(start)
        self.end = tuple(end)
        self.size = len(self.matrix)
        self.width = len(self.columns[0])

    def __eq__(self, other):
        return (isinstance(other, Guard) and self.modulus == other.modulus and self.matrix == other.matrix
                and self.columns == other.columns and self.start == other.start and self.end == other.end)

    def sum_of(self, block):
        """The sum of a list of symbols."""
        for index, symbol in enumerate(block):
            if not isinstance(symbol, tuple) or not are_numbers(symbol, self.width, self.modulus):
                raise BadSymbol(index)
        if len(block) > MOST_SYMBOLS:
            raise TooMany("symbols", len(block), MOST_SYMBOLS)
        state = self.start
        for symbol in block:
            state = self.state_behind(state, symbol)
        return self.ended(state)

    def state_behind(self, state, symbol):
        """The state behind a symbol."""
        moved = applied(self.modulus, self.matrix, state)
        return self.added(moved, applied(self.modulus, self.columns, symbol))

    def ended(self, state):
        """The sum that a state tells."""
        return self.added(state, self.end)

    def added(self, one, other):
        """The sum of two rows of numbers."""
        return tuple([(number + more) % self.modulus for number, more in zip(one, other)])

    def number_of(self, told):
        """A sum as a number: its numbers are the digits, the first one the highest."""
        number = 0
        for digit in told:
            number = number * self.modulus + digit
        return number

    def sum_of_bits(self, bits):
        """The sum of a string of bits, of any size, as one block."""
        state = self.start
        for bit in bits:
            state = self.state_behind(state, (1 if bit == "1" else 0,))
        return self.ended(state)


def are_numbers(row, many, modulus):
    """Whether a row has so many elements, all of them numbers."""
    return len(row) == many and all([is_between(number, 0, modulus - 1) for number in row])


def check_columns(columns, size, modulus):
    """Raises BadColumns unless there are as many rows of as many numbers."""
    width = len(columns[0]) if columns and is_list(columns[0]) else 0
    for index, row in enumerate(columns):
        if not is_list(row) or not 1 <= width <= MOST_NUMBERS or not are_numbers(row, width, modulus):
            raise BadColumns(index)
    if len(columns) != size:
        raise BadColumns(len(columns))


def first_wrong_number(row, many, modulus):
    """The index of the first element that is no number, or how many there are, if not so many; or None."""
    for index, number in enumerate(row):
        if not is_between(number, 0, modulus - 1):
            return index
    return None if len(row) == many else len(row)


def remainder(width, polynomial):
    """The guard of a register of bits that is turned by a polynomial."""
    if not is_between(width, 1, 16):
        raise BadWidth(width)
    if not is_between(polynomial, 1, (1 << width) - 1) or polynomial & 1 == 0:
        raise BadPolynomial(polynomial)
    turns = [polynomial >> (width - 1 - place) & 1 for place in range(width)]
    matrix = []
    for place in range(width):
        row = [1 if other == place + 1 else 0 for other in range(width)]
        # The highest bit, which goes out, turns bits as the polynomial tells.
        row[0] = (row[0] + turns[place]) % 2
        matrix.append(row)
    return Guard(2, matrix, [[bit] for bit in turns], [0] * width, [0] * width)
