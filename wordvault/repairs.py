"""Texts that may have been: which few bits may have been turned."""

from wordvault.checks import is_between
from wordvault.errors import BadSize
from wordvault.guards import are_numbers
from wordvault.matrices import applied
from wordvault.readers import check_bits

MOST_BITS = 200
MOST_TURNS = 3


def candidates(layout, bits, sums, most):
    """All tuples of at most so many places with which the bits have these sums and are read to the root."""
    check_bits(bits, MOST_BITS)
    if not is_between(most, 0, MOST_TURNS):
        raise BadSize(most)
    search = Repairs(layout, bits)
    need = search.need_of(sums)
    if need is not None:
        for many in range(most + 1):
            yield from search.turned_behind(0, 0, many, need)


class Repairs:
    """Bits, and what the turning of each one changes.

    A need tells by how much sums must still change: pairs (block, row of numbers), ascending, no
    row being 0. A place changes the sum of its own block alone, always by the same row.
    """

    def __init__(self, layout, bits):
        self.guard = layout.guard
        self.tree = layout.code.tree
        self.bits = bits
        self.sums = layout.block_sums(bits)
        self.changes = changes_of(layout, bits)
        # For each need that one turned place meets, these places.
        self.places = {}
        for place, (block, row) in enumerate(self.changes):
            self.places.setdefault(((block, row),) if any(row) else (), {})[place] = True
        self.ends = {}

    def need_of(self, sums):
        """The need of sums; None if they are no sums of so many blocks."""
        if len(sums) != len(self.sums):
            return None
        if not all([are_numbers(row, self.guard.size, self.guard.modulus) for row in sums]):
            return None
        rows = [self.less(row, told) for row, told in zip(sums, self.sums)]
        return tuple([(block, row) for block, row in enumerate(rows) if any(row)])

    def less(self, row, other):
        """A row of numbers less another one."""
        return tuple([(number - more) % self.guard.modulus for number, more in zip(row, other)])

    def need_behind(self, need, place):
        """The need that is left when a place is turned."""
        block, row = self.changes[place]
        rows = {told: numbers for told, numbers in need}
        rows[block] = self.less(rows.get(block, (0,) * self.guard.size), row)
        return tuple([(told, rows[told]) for told in sorted(list(rows)) if any(rows[told])])

    def node_behind(self, node, bit):
        """The node behind a bit."""
        return max(self.tree.behind(node, bit), 0)

    def turned_behind(self, first, node, many, need):
        """Tuples of so many places from first on that meet the need; the reader stands at a node at first."""
        if many == 0:
            if not need and self.ends_at_root(first, node):
                yield ()
        elif many == 1:
            fit = self.places.get(need, {})
            for place in range(first, len(self.bits) if fit else first):
                if place in fit and self.ends_at_root(place + 1, self.node_behind(node, self.other(place))):
                    yield (place,)
                node = self.node_behind(node, self.bits[place])
        elif len(need) <= many:
            for place in range(first, len(self.bits)):
                behind, fewer = place + 1, many - 1
                onward, left = self.node_behind(node, self.other(place)), self.need_behind(need, place)
                for places in self.turned_behind(behind, onward, fewer, left):
                    yield (place,) + places
                node = self.node_behind(node, self.bits[place])

    def other(self, place):
        """The bit at a place, turned."""
        return "0" if self.bits[place] == "1" else "1"

    def ends_at_root(self, place, node):
        """Whether a reader that stands at a node at this place stands at the root at the end."""
        way = []
        while place < len(self.bits) and (place, node) not in self.ends:
            way.append((place, node))
            node = self.node_behind(node, self.bits[place])
            place += 1
        told = self.ends[(place, node)] if place < len(self.bits) else node == 0
        for pair in way:
            self.ends[pair] = told
        return told


def changes_of(layout, bits):
    """For each place its block, and by what the sum of that changes when the bit is turned."""
    guard = layout.guard
    block = max(len(bits), 1) if layout.block is None else layout.block
    changes = []
    for first in range(0, len(bits), block):
        row = applied(guard.modulus, guard.columns, (1,))
        told = []
        for bit in bits[first:first + block][::-1]:
            told.append((first // block, row if bit == "0" else tuple([-number % guard.modulus for number in row])))
            row = applied(guard.modulus, guard.matrix, row)
        changes.extend(told[::-1])
    return changes
