"""Sums of great texts of bits."""

from wordvault.blocksums import BlockSums
from wordvault.checks import is_between
from wordvault.effects import Effects
from wordvault.errors import BadBlock, BadPlace, BadSigns, BadSize, BadWidth, TooMany

MOST_BLOCK = 10 ** 30
MOST_BITS = 512
MOST_SUMS = 2000


class Sheet:
    """The blocks of a text of bits."""

    def __init__(self, guard, bits, block):
        if guard.width != 1:
            raise BadWidth(guard.width)
        if bits.signs != 2:
            raise BadSigns(bits.signs)
        check_block(block)
        self.guard = guard
        self.bits = bits
        self.block = block
        self.many = (bits.size + block - 1) // block
        self._effects = Effects(guard, bits.grammar)

    def sum_at(self, index):
        """The sum of a block."""
        if not is_between(index, 0, self.many - 1):
            raise BadPlace(index)
        first = index * self.block
        return self.sum_over(first, min(self.block, self.bits.size - first))

    def sum_over(self, first, many):
        """The sum of so many bits, as one block."""
        if not is_between(first, 0, self.bits.size):
            raise BadPlace(first)
        if not is_between(many, 0, self.bits.size - first):
            raise BadSize(many)
        grammar = self.bits.grammar
        row = grammar.pieces(grammar.top, first, first + many)
        return self.guard.ended(self._effects.over_row(self.guard.start, row))


def check_block(block):
    """Raises BadBlock for any value that is no size of blocks."""
    if not is_between(block, 1, MOST_BLOCK):
        raise BadBlock(block)


def number_of_sum(guard, told):
    """A sum as a number."""
    return guard.number_of(told)


def sums_text(sheet):
    """The text of the numbers of all sums."""
    if sheet.block > MOST_BITS:
        raise TooMany("bits", sheet.block, MOST_BITS)
    sums = 1
    for _ in range(sheet.guard.size):
        sums *= sheet.guard.modulus
    if sums > MOST_SUMS:
        raise TooMany("sums", sums, MOST_SUMS)
    return BlockSums(sheet.guard, sheet.bits.grammar, sheet.block, sums).text()
