"""Which texts two machines tell apart."""

from wordvault.automata import least_table, row_to, walked
from wordvault.copies import frozen
from wordvault.machines import check_machines, machine_of, paired_table

MOST_PAIRS = 20000


class Alike:
    """Two machines have the same texts."""

    def __init__(self, one, other, pairs):
        self.one = frozen(one)
        self.other = frozen(other)
        self.pairs = frozen(pairs)


class Apart:
    """A row of signs is a text of just one of two machines."""

    def __init__(self, one, other, row):
        self.one = frozen(one)
        self.other = frozen(other)
        self.row = frozen(row)


def first_text(machine):
    """The least text of a machine, or None."""
    order, came = walked(machine.table, machine.start)
    for state in order:
        if machine.kinds[state]:
            return row_to(came, state)
    return None


def compared(one, other):
    """Alike with all reached pairs of states, or Apart with a least row of signs."""
    check_machines(one, other)
    pairs, table = paired_table(one, other, "pairs", MOST_PAIRS)
    unlike = [one.kinds[state] != other.kinds[against] for state, against in pairs]
    if not any(unlike):
        return Alike(one, other, sorted(pairs))
    order, came = walked(table, 0)
    return Apart(one, other, row_to(came, [number for number in order if unlike[number]][0]))


def places_apart(one, other):
    """None if each row marks the same places with both, otherwise the least row with such a last place."""
    check_machines(one, other)
    pairs, table = paired_table(one, other, "pairs", MOST_PAIRS)
    unlike = [one.kinds[state] != other.kinds[against] for state, against in pairs]
    # The start counts only as it is come to again: it is walked over from a copy to which no sign leads.
    order, came = walked(table + [table[0]], len(table))
    for number in order[1:]:
        if unlike[number]:
            return row_to(came, number)
    return None


def least_machine(machine):
    """The machine with fewest states that has the same texts."""
    table, kinds = least_table(machine.table, machine.kinds, machine.start)
    return machine_of(machine.signs, table, 0, kinds)
