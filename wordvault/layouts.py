"""Texts laid in blocks, each with its sum; and damage to their bits."""

from wordvault.checks import first_wrong_sign, is_between
from wordvault.errors import BadBlock, BadSign, BadTurns, BadWidth, TooMany
from wordvault.readers import check_bits

MOST_BLOCK = 1000
MOST_SIGNS = 2000
MOST_BITS = 10000


class Layout:
    """A code, a guard, and how many bits a block has; None: all bits are one block."""

    def __init__(self, code, guard, block):
        if guard.width != 1:
            raise BadWidth(guard.width)
        if block is not None and not is_between(block, 1, MOST_BLOCK):
            raise BadBlock(block)
        self.code = code
        self.guard = guard
        self.block = block

    def bits_of(self, signs):
        """The words of a list of signs, one behind the other."""
        wrong = first_wrong_sign(signs, self.code.size)
        if wrong is not None:
            raise BadSign(wrong)
        if len(signs) > MOST_SIGNS:
            raise TooMany("signs", len(signs), MOST_SIGNS)
        return self.words_of(signs)

    def words_of(self, signs):
        """As bits_of, for any number of signs that were looked at."""
        return "".join([self.code.words[sign] for sign in signs])

    def sums_of(self, bits):
        """The sums of the blocks."""
        check_bits(bits, MOST_BITS)
        return self.block_sums(bits)

    def block_sums(self, bits):
        """As sums_of, for any number of bits that were looked at."""
        if self.block is None:
            return (self.guard.sum_of_bits(bits),)
        return tuple([self.guard.sum_of_bits(bits[first:first + self.block])
                      for first in range(0, len(bits), self.block)])

    def read_all(self, bits):
        """The signs that a reader reads, and the node at which it stands then."""
        check_bits(bits, MOST_BITS)
        return self.signs_read(bits)

    def signs_read(self, bits):
        """As read_all, for any number of bits that were looked at."""
        node, signs = self.code.tree.read_named("", bits)
        return tuple(signs), node


def bits_turned(bits, places):
    """The bits with those at these places turned."""
    check_bits(bits, MOST_BITS)
    wrong = first_wrong_turn(bits, places)
    if wrong is not None:
        raise BadTurns(wrong)
    return turned_at(bits, places)


def first_wrong_turn(bits, places):
    """The index of the first element that is no place of a bit, or not above the one ahead; None if all are."""
    least = 0
    for index, place in enumerate(places):
        if not is_between(place, least, len(bits) - 1):
            return index
        least = place + 1
    return None


def turned_at(bits, places):
    """As bits_turned, for what was looked at."""
    told = list(bits)
    for place in places:
        told[place] = "0" if told[place] == "1" else "1"
    return "".join(told)


def noticed_at(layout, bits, places):
    """None if the damage is not noticed; otherwise where it is."""
    return notice(layout, bits, bits_turned(bits, places))


def notice(layout, bits, damaged):
    """As noticed_at, for the bits as they were and as they are."""
    for index, (told, wrong) in enumerate(zip(layout.block_sums(bits), layout.block_sums(damaged))):
        if told != wrong:
            return "block", index
    _, node = layout.signs_read(damaged)
    return None if node == "" else ("end", node)


def hurt_signs(layout, bits, places):
    """The indexes of the hurt signs of those that are read of the bits."""
    return hurt_indexes(layout, bits, bits_turned(bits, places))


def hurt_indexes(layout, bits, damaged):
    """As hurt_signs, for the bits as they were and as they are."""
    signs, _ = layout.signs_read(bits)
    hurt = []
    node, place = "", 0
    for index, sign in enumerate(signs):
        end = place + layout.code.lengths[sign]
        if node != "" or bits[place:end] != damaged[place:end]:
            hurt.append(index)
        node, _ = layout.code.tree.read_named(node, damaged[place:end])
        place = end
    return tuple(hurt)
