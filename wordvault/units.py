"""Rules of two texts brought into one form, so that what is told alike is one.

A unit is a pair (base, count). A base is a sign, or signs and the number of a node
added; a node is a tuple of two units at least, no two neighbours of one base. Equal
nodes are one, and counts may be as great as they like.
"""

from wordvault.grammars import EMPTY


class Units:
    """Nodes, their sizes, and the numbers under which they are found again."""

    def __init__(self, signs):
        self.signs = signs
        self.nodes = []
        self.sizes = []
        self.numbers = {}
        # For each node that was found to tell the same as one of a lesser number, that one.
        self.leaders = {}

    def size_of(self, base):
        """How many signs a base tells."""
        return 1 if base < self.signs else self.sizes[base - self.signs]

    def unit_of(self, units):
        """The one unit that tells these units."""
        row = []
        for base, count in units:
            if row and row[-1][0] == base:
                row[-1] = (base, row[-1][1] + count)
            else:
                row.append((base, count))
        if len(row) == 1:
            return row[0]
        node = tuple(row)
        if node not in self.numbers:
            self.numbers[node] = self.signs + len(self.nodes)
            self.nodes.append(node)
            self.sizes.append(sum([self.size_of(base) * count for base, count in node]))
        return self.numbers[node], 1

    def laid_in(self, rows, codes):
        """For each of some codes the units that tell it, none for EMPTY; rows are rules of codes."""
        below = {code: True for code in codes}
        for code in range(self.signs + len(rows) - 1, self.signs - 1, -1):
            if code in below:
                for part, _ in rows[code - self.signs]:
                    below[part] = True
        told = {EMPTY: None}
        for code in sorted(list(below)):
            if 0 <= code < self.signs:
                told[code] = (code, 1)
            elif code >= self.signs:
                told[code] = self.unit_of(
                    [(told[part][0], told[part][1] * count) for part, count in rows[code - self.signs]])
        return [[] if code == EMPTY else [told[code]] for code in codes]

    def leader_of(self, base):
        """The base that stands for all that were found to tell the same as this one."""
        while base in self.leaders:
            base = self.leaders[base]
        return base

    def open_last(self, stack):
        """Puts the units of a node in the place of one copy of the last unit of a stack."""
        base, count = stack.pop()
        if count > 1:
            stack.append((base, count - 1))
        stack.extend(self.nodes[base - self.signs][::-1])

    def open_marked(self, stack):
        """As open_last, with a mark, a unit with the count 0, where the node ends."""
        base, count = stack.pop()
        if count > 1:
            stack.append((base, count - 1))
        stack.append((base, 0))
        stack.extend(self.nodes[base - self.signs][::-1])

    def alike_ahead(self, one, other):
        """How many signs two stacks of units (the next one last) have alike at once; these are taken off.

        Where two nodes of one size stand against each other, marks stand where they end: if these are come
        to, the two tell the same, and need not be looked at again. But where nodes overlap it
        would take too long: then it is given up.
        """
        alike = 0
        left = 4 * sum([len(node) for node in self.nodes]) + 100
        while one and other and left > 0:
            left -= 1
            (base, count), (other_base, other_count) = self.led(one), self.led(other)
            if count == 0:
                one.pop()
                other.pop()
                if base != other_base:
                    self.leaders[max(base, other_base)] = min(base, other_base)
            elif base == other_base:
                both = min(count, other_count)
                alike += both * self.size_of(base)
                take_off(one, both)
                take_off(other, both)
            elif base < self.signs and other_base < self.signs:
                break
            elif self.size_of(base) == self.size_of(other_base):
                self.open_marked(one)
                self.open_marked(other)
            else:
                self.open_last(one if self.size_of(base) > self.size_of(other_base) else other)
        take_marks_off(one)
        take_marks_off(other)
        return alike

    def led(self, stack):
        """The last unit of a stack, by its leader."""
        base, count = stack[-1]
        stack[-1] = (self.leader_of(base), count)
        return stack[-1]


def take_off(stack, many):
    """Takes so many copies off the last unit."""
    base, count = stack.pop()
    if count > many:
        stack.append((base, count - many))


def take_marks_off(stack):
    """Leaves the units that are no marks."""
    kept = [unit for unit in stack if unit[1] > 0]
    stack.clear()
    stack.extend(kept)
