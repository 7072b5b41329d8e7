"""Searchers over bits: how machines over the signs of a code go along with the bits.

A standing is a pair (state of a machine, node of the code, told by its bits).
"""

from wordvault.automata import stretched
from wordvault.errors import OtherSigns, TooMany
from wordvault.machines import machine_of, target_of

MOST_STATES = 2000
BITS = "01"


def check_code_machine(code, machine):
    """Raises OtherSigns unless a machine has as many signs as the code; None is let by."""
    if machine is not None and machine.signs != code.size:
        raise OtherSigns()


def node_or_sign(code, node, bit):
    """The node behind a bit, and None; or the root, and the sign that is read."""
    behind = code.tree.behind(code.tree.numbers[node], bit)
    return (code.tree.names[behind], None) if behind >= 0 else ("", -1 - behind)


def standing_behind(code, machine, standing, bit):
    """The standing behind a bit, and whether a sign has come to its end there."""
    state, node = standing
    behind, sign = node_or_sign(code, node, bit)
    if sign is None:
        return (state, behind), False
    return (target_of(machine.table[state], sign), behind), True


def tells_behind(code, machine, standing, bit):
    """The standing behind a bit, and whether the machine tells there."""
    behind, ended = standing_behind(code, machine, standing, bit)
    return behind, ended and machine.kinds[behind[0]]


def searcher_of(states):
    """The searcher of some States."""
    numbers = {states.first: 0}
    order = [states.first]
    table = []
    while len(table) < len(order):
        row = []
        for bit in BITS:
            behind = states.state_behind(order[len(table)], bit)
            if behind not in numbers:
                if len(order) == MOST_STATES:
                    raise TooMany("states", MOST_STATES + 1, MOST_STATES)
                numbers[behind] = len(order)
                order.append(behind)
            row.append(numbers[behind])
        table.append(stretched(row))
    return machine_of(2, table, 0, [states.is_marked(state) for state in order])
