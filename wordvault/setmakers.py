"""Machines of machines, by sets of states.

A set is a number with a bit for each of its states.
"""

from wordvault.alike import least_machine
from wordvault.automata import renamed
from wordvault.errors import TooMany
from wordvault.machines import check_machines, machine_of, sign_columns

MOST_SETS = 2000


def chained(one, other):
    """Each text of the one with one of the other behind it."""
    check_machines(one, other)
    ahead, behind = least_machine(one), least_machine(other)
    shift = len(ahead.table)
    table = ahead.table + [tuple([(first, state + shift) for first, state in row]) for row in behind.table]
    ends = set_of([False for _ in ahead.kinds] + behind.kinds)
    sets = Sets(one.signs, table, ends)
    sets.first = 1
    sets.restart(set_of(ahead.kinds), 1 << shift)
    return sets.machine()


def any_number(machine):
    """Any number of texts, one behind the other."""
    least = least_machine(machine)
    # A bit more, to which no sign leads, marks the empty row.
    fresh = 1 << len(least.table)
    sets = Sets(machine.signs, least.table, set_of(least.kinds) | fresh)
    sets.first = 1 | fresh
    sets.restart(set_of(least.kinds), 1)
    return sets.machine()


def turned_machine(machine):
    """The texts from the last sign to the first one."""
    least = least_machine(machine)
    sets = Sets(machine.signs, least.table, 1)
    sets.turn()
    sets.first = set_of(least.kinds)
    return sets.machine()


def ending_in(machine):
    """All rows some end of which is a text."""
    least = least_machine(machine)
    sets = Sets(machine.signs, least.table, set_of(least.kinds))
    sets.first = 1
    sets.always = 1
    return sets.machine()


def set_of(kinds):
    """The set of the states of this kind."""
    return sum([1 << state for state, kind in enumerate(kinds) if kind])


class Sets:
    """Which sets of states come up: signs lead each state of a set on, and new ones come in."""

    def __init__(self, signs, table, ends):
        self.signs = signs
        self.ends = ends
        self.first = 0
        # What comes in behind each sign; and what, if a state of the trigger is in the set then.
        self.always = 0
        self.trigger = 0
        self.entry = 0
        numbers = {}
        self.columns = []
        for first, column in sign_columns(signs, table):
            self.columns.append((first, numbers.setdefault(column, len(numbers))))
        self.moves = []
        for column in numbers:
            self.moves.append([1 << target for target in column])

    def restart(self, trigger, entry):
        """From now on the entry comes in where a state of the trigger is in the set, also at first."""
        self.trigger = trigger
        self.entry = entry
        self.first = self.entered(self.first)

    def entered(self, states):
        """The set with what comes in."""
        states |= self.always
        return states | self.entry if states & self.trigger else states

    def turn(self):
        """Signs lead back from now on."""
        for at, column in enumerate(list(self.moves)):
            back = [0 for _ in column]
            for state, target in enumerate(column):
                back[target.bit_length() - 1] |= 1 << state
            self.moves[at] = back

    def led(self, states, moves):
        """The set to which a sign leads."""
        behind = 0
        while states:
            state = states.bit_length() - 1
            states -= 1 << state
            if state < len(moves):
                behind |= moves[state]
        return self.entered(behind)

    def machine(self):
        """The least machine that these sets make."""
        numbers = {self.first: 0}
        order = [self.first]
        table = []
        while len(table) < len(order):
            behind = [self.led(order[len(table)], moves) for moves in self.moves]
            row = []
            for first, column in self.columns:
                states = behind[column]
                if states not in numbers:
                    if len(order) == MOST_SETS:
                        raise TooMany("sets", MOST_SETS + 1, MOST_SETS)
                    numbers[states] = len(order)
                    order.append(states)
                row.append((first, states))
            table.append(renamed(row, numbers))
        kinds = [states & self.ends != 0 for states in order]
        return least_machine(machine_of(self.signs, table, 0, kinds))
