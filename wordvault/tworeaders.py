"""Two readers along the bits of a text: the right one over the bits as they are, the wrong one over the turned ones.

A row is a tuple (place in the open block, node of the right reader, node of the wrong one,
difference of the states of the guard, what is left of the damage, states of a machine).
"""

from wordvault.checks import is_between, is_tuple_of
from wordvault.errors import TooMany
from wordvault.guards import are_numbers
from wordvault.machines import target_of
from wordvault.matrices import applied
from wordvault.standings import BITS, node_or_sign

MOST_ROWS = 2000


class TwoReaders:
    """The rows and steps of a layout and a kind of damage; without the guard, if guarded is False."""

    def __init__(self, layout, damage, machine, guarded):
        self.code = layout.code
        self.guard = layout.guard
        self.block = layout.block
        self.damage = damage
        self.machine = machine
        self.guarded = guarded
        states = () if machine is None else (machine.start, machine.start)
        self.first = (0, "", "", (0,) * self.guard.size, damage.first_left, states)

    def steps(self, row):
        """Quadruples (bit, whether it is turned, whether that hurts, the row behind or None for nowhere)."""
        told = []
        for bit in BITS:
            told.append(self.step(row, bit, False))
            if self.damage.may_turn(row[4], bit):
                told.append(self.step(row, bit, True))
        return tuple(told)

    def step(self, row, bit, is_turned):
        """The quadruple of a step."""
        place, right, wrong, difference, left, states = row
        read = BITS[1 - BITS.index(bit)] if is_turned else bit
        right_behind, sign = node_or_sign(self.code, right, bit)
        wrong_behind, other = node_or_sign(self.code, wrong, read)
        hurts = sign is not None and (is_turned or right != wrong)
        if self.guarded:
            difference = self.difference_behind(difference, bit, is_turned)
            place = 0 if self.block is None else (place + 1) % self.block
        left = self.damage.left_behind(left, is_turned)
        if any(difference) and (left == 0 or (place == 0 and self.block is not None)):
            return bit, is_turned, hurts, None
        states = tuple([state if read_sign is None else target_of(self.machine.table[state], read_sign)
                        for state, read_sign in zip(states, (sign, other))])
        return bit, is_turned, hurts, (place, right_behind, wrong_behind, difference, left, states)

    def difference_behind(self, difference, bit, is_turned):
        """By how much the states of the guard differ behind a bit."""
        modulus = self.guard.modulus
        moved = applied(modulus, self.guard.matrix, difference)
        if not is_turned:
            return moved
        more = 1 if bit == "0" else -1
        return self.guard.added(moved, applied(modulus, self.guard.columns, (more,)))

    def is_slip(self, row):
        """Whether a text may end here with a damage that is not noticed, and changes whether the machine has it."""
        _, right, wrong, difference, left, states = row
        if right != "" or wrong != "" or any(difference) or left == self.damage.first_left:
            return False
        return self.machine is None or self.machine.kinds[states[0]] != self.machine.kinds[states[1]]

    def is_end(self, row):
        """A slip; without the guard, whether a text may end here with a damage."""
        if self.guarded:
            return self.is_slip(row)
        return row[1] == "" and row[4] < self.damage.first_left

    def is_row(self, value):
        """Whether any value is of the form of a row."""
        if not is_tuple_of(value, 6):
            return False
        place, right, wrong, difference, left, states = value
        if not is_between(place, 0, 0 if self.block is None or not self.guarded else self.block - 1):
            return False
        if not self.code.tree.has_node(right) or not self.code.tree.has_node(wrong):
            return False
        most = self.guard.modulus if self.guarded else 1
        if not isinstance(difference, tuple) or not are_numbers(difference, self.guard.size, most):
            return False
        return is_between(left, 0, self.damage.first_left) and self.are_states(states)

    def are_states(self, value):
        """Whether any value is the states of a row."""
        if self.machine is None:
            return is_tuple_of(value, 0)
        return is_tuple_of(value, 2) and all([is_between(state, 0, len(self.machine.table) - 1) for state in value])

    def way(self, row, bits, places):
        """The rows along some bits of which those at these places are turned: None if there is no such way."""
        rows = [row]
        turned = {place: True for place in places}
        for place, bit in enumerate(bits):
            if place in turned and not self.damage.may_turn(rows[-1][4], bit):
                return None
            behind = self.step(rows[-1], bit, place in turned)[3]
            if behind is None:
                return None
            rows.append(behind)
        return rows


class RowsMet:
    """All rows that come up, those behind fewer bits first; for each one its steps, and how it was come to."""

    def __init__(self, readers):
        self.readers = readers
        self.numbers = {readers.first: 0}
        self.order = [readers.first]
        # For each row quadruples (bit, is_turned, hurts, number of the row behind or None).
        self.steps = []
        self.came = {0: None}
        while len(self.steps) < len(self.order):
            self.steps.append([self.step_noted(told) for told in readers.steps(self.order[len(self.steps)])])

    def step_noted(self, told):
        """A step with the number of the row behind."""
        bit, is_turned, hurts, behind = told
        if behind is None:
            return told
        if behind not in self.numbers:
            if len(self.order) == MOST_ROWS:
                raise TooMany("rows", MOST_ROWS + 1, MOST_ROWS)
            self.numbers[behind] = len(self.order)
            self.came[len(self.order)] = (len(self.steps), (bit, is_turned))
            self.order.append(behind)
        return bit, is_turned, hurts, self.numbers[behind]

    def table(self):
        """For each row the pairs ((bit, is_turned), number of the row behind)."""
        return [[((bit, is_turned), behind) for bit, is_turned, _, behind in row if behind is not None]
                for row in self.steps]


def bits_and_places(steps):
    """The bits of pairs (bit, is_turned), and the places of those that are turned."""
    bits = "".join([bit for bit, _ in steps])
    return bits, tuple([place for place, step in enumerate(steps) if step[1]])
