"""Edits that a machine does not see."""

from wordvault.automata import blocks_of, least_unlike, row_to, walked
from wordvault.checks import first_wrong_sign
from wordvault.errors import BadSign


def seen_at(machine, left, right):
    """None if left and right may stand for each other in all texts; otherwise a front and a back where they may not."""
    for row in (left, right):
        wrong = first_wrong_sign(row, machine.signs)
        if wrong is not None:
            raise BadSign(wrong)
    blocks = blocks_of(machine.table, machine.kinds)
    order, came = walked(machine.table, machine.start)
    for state in order:
        one, other = machine.state_behind(state, left), machine.state_behind(state, right)
        if blocks[one] != blocks[other]:
            return row_to(came, state), least_unlike(machine.table, machine.kinds, one, other)
    return None
