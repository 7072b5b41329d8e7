"""Edits that a machine does not see."""

from wordvault.automata import blocks_of, least_unlike, row_to, walked
from wordvault.checks import first_wrong_sign
from wordvault.errors import BadSign
from wordvault.machines import Steps


def seen_at(machine, left, right):
    """None if left and right may stand for each other in all texts; otherwise a front and a back where they may not."""
    for row in (left, right):
        wrong = first_wrong_sign(row, machine.signs)
        if wrong is not None:
            raise BadSign(wrong)
    blocks = blocks_of(machine.table, machine.kinds)
    steps = Steps(machine)
    ones, others = steps.states_behind(left), steps.states_behind(right)
    order, came = walked(machine.table, machine.start)
    for state in order:
        if blocks[ones[state]] != blocks[others[state]]:
            back = least_unlike(machine.table, machine.kinds, ones[state], others[state])
            return row_to(came, state), back
    return None
