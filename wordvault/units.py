"""Rules of two texts brought into one form, so that what is told alike is one.

A unit is a pair (base, count). A base is a sign, or signs and the number of a node
added; a node is a tuple of two units at least, no two neighbours of one base. Equal
nodes are one, and counts may be as great as they like.
"""

from wordvault.grammars import EMPTY


class Units:
    """Nodes, their sizes, and the numbers under which they are found again."""

    def __init__(self, signs):
        self.signs = signs
        self.nodes = []
        self.sizes = []
        self.numbers = {}

    def size_of(self, base):
        """How many signs a base tells."""
        return 1 if base < self.signs else self.sizes[base - self.signs]

    def unit_of(self, units):
        """The one unit that tells these units."""
        row = []
        for base, count in units:
            if row and row[-1][0] == base:
                row[-1] = (base, row[-1][1] + count)
            else:
                row.append((base, count))
        if len(row) == 1:
            return row[0]
        node = tuple(row)
        if node not in self.numbers:
            self.numbers[node] = self.signs + len(self.nodes)
            self.nodes.append(node)
            self.sizes.append(sum([self.size_of(base) * count for base, count in node]))
        return self.numbers[node], 1

    def laid_in(self, rows, codes):
        """For each of some codes the units that tell it, none for EMPTY; rows are rules of codes."""
        below = {code: True for code in codes}
        for code in range(self.signs + len(rows) - 1, self.signs - 1, -1):
            if code in below:
                for part, _ in rows[code - self.signs]:
                    below[part] = True
        told = {EMPTY: None}
        for code in sorted(list(below)):
            if 0 <= code < self.signs:
                told[code] = (code, 1)
            elif code >= self.signs:
                told[code] = self.unit_of(
                    [(told[part][0], told[part][1] * count) for part, count in rows[code - self.signs]])
        return [[] if code == EMPTY else [told[code]] for code in codes]

    def opened(self, unit):
        """The units of one copy of a node, and the unit of what is left."""
        base, count = unit
        units = list(self.nodes[base - self.signs])
        if count > 1:
            units.append((base, count - 1))
        return units

    def alike_ahead(self, one, other):
        """How many signs two stacks of units (the next one last) have alike at once; these are taken off.

        Greater units are opened, but only so often as there are nodes: then it is given up.
        """
        alike = 0
        left = 4 * len(self.nodes) + 100
        while one and other and left > 0:
            left -= 1
            (base, count), (other_base, other_count) = one[-1], other[-1]
            if base == other_base:
                both = min(count, other_count)
                alike += both * self.size_of(base)
                take_off(one, both)
                take_off(other, both)
            elif base < self.signs and other_base < self.signs:
                return alike
            elif self.size_of(base) >= self.size_of(other_base):
                one.extend(self.opened(one.pop())[::-1])
            else:
                other.extend(self.opened(other.pop())[::-1])
        return alike


def take_off(stack, many):
    """Takes so many copies off the last unit."""
    base, count = stack.pop()
    if count > many:
        stack.append((base, count - many))
