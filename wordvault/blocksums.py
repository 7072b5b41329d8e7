"""Rules for the sums of all blocks of a text of bits.

A rule of bits tells the sums of the blocks that begin and end in it; they depend on its phase,
how many bits of a block stand ahead of it. Blocks that begin in one part and end in another
one are told bit by bit. Copies of a part have the same phases again and again.
"""

from math import gcd

from wordvault.errors import TooMany
from wordvault.grammars import EMPTY
from wordvault.shelves import Shelf
from wordvault.texts import MOST_COUNT, MOST_RULES


class BlockSums:
    """The rules of the sums, by codes of bits and phases."""

    def __init__(self, guard, grammar, block, signs):
        self.guard = guard
        self.grammar = grammar
        self.block = block
        self.shelf = Shelf(signs)
        self.known = {}
        self.states = {}
        self.sums = {}

    def text(self):
        """The text of the sums of all blocks."""
        row = self.grammar.whole_row()
        for code, phase in self.needs(row, 0):
            self.find(code, phase)
        line = self.line_of(row, 0)
        if line.begun:
            line.put_sum(line.begun)
        return self.shelf.text(self.shelf.laid(line.pairs))

    def find(self, code, phase):
        """Makes the sums of a code at a phase known, and all that it needs."""
        todo = [(code, phase)]
        while todo:
            code, phase = todo[-1]
            row = self.grammar.row_of(code)
            missing = [need for need in self.needs(row, phase) if need not in self.known]
            if missing:
                todo.extend(missing)
            else:
                todo.pop()
                if (code, phase) not in self.known:
                    self.known[(code, phase)] = self.shelf.laid(self.line_of(row, phase).pairs)
                    # All of these stand in the text: there are too many already.
                    if len(self.shelf.rows) > MOST_RULES:
                        raise TooMany("rules", len(self.shelf.rows), MOST_RULES)

    def needs(self, row, phase):
        """The pairs (code, phase) whose sums stand in a row that begins at a phase."""
        told = {}
        for code, count in row:
            size = self.grammar.size_of(code)
            step = size % self.block
            if self.is_long(size, count) and size > self.block:
                for copy in range(min(count, self.block // gcd(step, self.block))):
                    told[(code, (phase + copy * step) % self.block)] = True
            phase = (phase + step * count) % self.block
        return list(told)

    def is_long(self, size, count):
        """Whether copies of a code are told by rules of their own."""
        return size * count > 2 * self.block

    def line_of(self, row, phase):
        """The Line of the sums of a row that begins at a phase."""
        line = Line(self, -phase % self.block)
        for code, count in row:
            size = self.grammar.size_of(code)
            if self.is_long(size, count):
                line.put_run(code, count)
            else:
                line.put_bits(tuple(self.grammar.signs_of(code, 0, size)) * count)
        return line

    def sum_of(self, bits):
        """The number of the sum of a tuple of bits."""
        if bits not in self.sums:
            state = self.guard.start
            for bit in bits:
                if (state, bit) not in self.states:
                    self.states[(state, bit)] = self.guard.state_behind(state, (bit,))
                state = self.states[(state, bit)]
            self.sums[bits] = self.guard.number_of(self.guard.ended(state))
        return self.sums[bits]

    def head(self, code, count, many):
        """The first bits of copies of a code, which have as many."""
        copies = min(count, many // self.grammar.size_of(code) + 1)
        return tuple((self.grammar.signs_of(code, 0, many) * copies)[:many])

    def tail(self, code, count, many):
        """The last bits of copies of a code, which have as many."""
        size = self.grammar.size_of(code)
        copies = min(count, many // size + 1)
        bits = self.grammar.signs_of(code, max(0, size - many), many) * copies
        return tuple(bits[len(bits) - many:])

    def run_told(self, code, count, phase):
        """Pairs that tell the sums of the blocks in copies of a code, begun at a phase."""
        size = self.grammar.size_of(code)
        if size <= self.block:
            return self.short_told(code, count, -phase % self.block)
        step = size % self.block
        units = []
        for copy in range(min(count - 1, self.block // gcd(step, self.block))):
            units.append(self.copy_told(code, (phase + copy * step) % self.block))
        last = self.known[(code, (phase + (count - 1) * step) % self.block)]
        return self.in_turn(units, count - 1) + [(last, 1)]

    def copy_told(self, code, phase):
        """Pairs for a copy of a code at a phase, and for the block that ends in the next copy, if there is one."""
        behind = (phase + self.grammar.size_of(code)) % self.block
        pairs = [(self.known[(code, phase)], 1)]
        if behind:
            bits = self.tail(code, 1, behind) + self.head(code, 1, self.block - behind)
            pairs.append((self.sum_of(bits), 1))
        return pairs

    def short_told(self, code, count, first):
        """Pairs for copies of a code that has no more bits than a block, begun so many bits ahead of a block."""
        size = self.grammar.size_of(code)
        many = (size * count - first) // self.block
        bits = tuple(self.grammar.signs_of(code, 0, size)) * (self.block // size + 2)
        units = []
        for number in range(min(many, size // gcd(size, self.block))):
            at = (first + number * self.block) % size
            units.append([(self.sum_of(bits[at:at + self.block]), 1)])
        return self.in_turn(units, many)

    def in_turn(self, units, many):
        """Pairs for so many units, which come again and again; each one is a row of pairs."""
        if not units:
            return []
        rounds, rest = divmod(many, len(units))
        whole = []
        for unit in units:
            for code, count in unit:
                put_joined(whole, code, count)
        told = [(self.shelf.laid(whole), rounds)] if rounds > 1 else whole * rounds
        return told + [pair for unit in units[:rest] for pair in unit]


class Line:
    """The sums of a row as far as it has come: bits to skip ahead of the first block, and bits of a begun one."""

    def __init__(self, owner, skip):
        self.owner = owner
        self.skip = skip
        self.begun = ()
        self.pairs = []

    def put_sum(self, bits):
        """Puts the sum of a block behind."""
        put_joined(self.pairs, self.owner.sum_of(bits), 1)

    def put_bits(self, bits):
        """Puts some bits behind."""
        passed = min(self.skip, len(bits))
        self.skip -= passed
        self.begun = self.begun + bits[passed:]
        while len(self.begun) >= self.owner.block:
            self.put_sum(self.begun[:self.owner.block])
            self.begun = self.begun[self.owner.block:]

    def put_run(self, code, count):
        """Puts copies of a code behind, which have more bits than two blocks."""
        block = self.owner.block
        phase = block - self.skip if self.skip else len(self.begun)
        if self.begun:
            self.put_sum(self.begun + self.owner.head(code, count, block - len(self.begun)))
        for part, many in self.owner.run_told(code, count, phase):
            put_joined(self.pairs, part, many)
        self.skip = 0
        behind = (phase + self.owner.grammar.size_of(code) * count) % block
        self.begun = self.owner.tail(code, count, behind)


def put_joined(row, code, count):
    """Puts a pair behind a row of pairs, unless it tells nothing; neighbours of one code become one, if counts let."""
    if code == EMPTY:
        return
    if row and row[-1][0] == code and row[-1][1] + count <= MOST_COUNT:
        row[-1] = (code, row[-1][1] + count)
    else:
        row.append((code, count))
