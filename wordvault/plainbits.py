"""Places of the bits of a row of signs in the bits of a text."""

from wordvault.checks import first_wrong_sign
from wordvault.errors import BadKind, BadSign, TooMany
from wordvault.machines import Machine
from wordvault.standings import node_or_sign, searcher_of

MOST_SIGNS = 20
MOST_BITS = 200


def bits_of_row(code, row):
    """The words of a row of signs, one behind the other."""
    if not 1 <= len(row) <= MOST_SIGNS:
        raise TooMany("signs", len(row), MOST_SIGNS)
    wrong = first_wrong_sign(row, code.size)
    if wrong is not None:
        raise BadSign(wrong)
    bits = "".join([code.words[sign] for sign in row])
    if len(bits) > MOST_BITS:
        raise TooMany("bits", len(bits), MOST_BITS)
    return bits


def beginnings_behind(bits):
    """For each size, and the bits 0 and 1: how many bits the longest beginning has that ends what was read then."""
    told = []
    # The size to which the same bits lead without the first one.
    lag = 0
    for size in range(len(bits) + 1):
        row = list(told[lag]) if size else [0, 0]
        if size < len(bits):
            bit = 1 if bits[size] == "1" else 0
            if size:
                lag = told[lag][bit]
            row[bit] = size + 1
        told.append(row)
    return told


def plain_search(code, row):
    """The searcher that tells behind each place of the bits."""
    bits = bits_of_row(code, row)
    rows = []
    for zero, one in beginnings_behind(bits):
        rows.append((zero, [(1, 1, one)]))
    return Machine(2, rows, 0, [len(bits)])


def stop_search(code, row, kind):
    """The searcher that tells behind each true place, or behind each false one."""
    bits = bits_of_row(code, row)
    if not isinstance(kind, str) or kind not in ("true", "false"):
        raise BadKind(kind)
    return searcher_of(Stops(code, bits, kind == "true"))


class Stops:
    """Pairs (size of the beginning that was read, node at which the reader of the text stood ahead of it)."""

    def __init__(self, code, bits, wished):
        self.code = code
        self.bits = bits
        self.wished = wished
        self.sizes = beginnings_behind(bits)
        self.first = (0, "")

    def state_behind(self, state, bit):
        """The pair behind a bit: the reader goes on over the bits that are no more of the beginning."""
        size, node = state
        behind = self.sizes[size][1 if bit == "1" else 0]
        for told in (self.bits[:size] + bit)[:size + 1 - behind]:
            node, _ = node_or_sign(self.code, node, told)
        return behind, node

    def is_marked(self, state):
        """Whether the searcher tells there."""
        size, node = state
        return size == len(self.bits) and (node == "") == self.wished


def ends_sure(code, row):
    """The nodes, the root left out, from which the bits lead a reader to the root."""
    bits = bits_of_row(code, row)
    nodes = [name for name in code.tree.names if name and code.tree.read_named(name, bits)[0] == ""]
    return tuple(sorted(nodes, key=lambda name: (len(name), name)))
