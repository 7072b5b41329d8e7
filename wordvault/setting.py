"""Bits that set all readers right."""

from wordvault.automata import row_to
from wordvault.errors import TooMany
from wordvault.readers import MOST_BITS, check_bits

MOST_SIGNS = 13


def setting(code):
    """The fewest bits behind which all readers stand at one node, wherever they stood; None if there are none."""
    if code.size > MOST_SIGNS:
        raise TooMany("signs", code.size, MOST_SIGNS)
    start = tuple(range(len(code.tree.names)))
    came = {start: None}
    order = [start]
    at = 0
    while at < len(order):
        if len(order[at]) == 1:
            return "".join(row_to(came, order[at]))
        for bit in "01":
            nodes = nodes_behind(code, order[at], bit)
            if nodes not in came:
                came[nodes] = (order[at], bit)
                order.append(nodes)
        at += 1
    return None


def nodes_behind(code, nodes, bit):
    """The nodes at which readers stand behind a bit, each once, ascending."""
    return tuple(sorted(set([max(code.tree.behind(node, bit), 0) for node in nodes])))


def sets_right(code, bits):
    """Whether all readers stand at one node behind these bits, wherever they stood."""
    check_bits(bits, MOST_BITS)
    nodes = tuple(range(len(code.tree.names)))
    for bit in bits:
        nodes = nodes_behind(code, nodes, bit)
    return len(nodes) == 1
