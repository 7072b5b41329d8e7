"""Readers of a code that stand anywhere in the bits of a text, and what damage does to them."""

from wordvault.checks import is_between, is_from
from wordvault.codes import first_wrong_bit
from wordvault.errors import BadBits, BadCount, BadNode, BadPlace, BadSize, TooMany
from wordvault.orbits import Orbits

MOST_BITS = 2000
ROOT = 0


class Words:
    """A reader stands at a node, and reads the word of a sign: the amount is how many signs it has read."""

    def __init__(self, code):
        self.code = code
        self.known = {}

    def over_sign(self, node, sign):
        """The node behind the word of a sign, and the amount."""
        if (node, sign) not in self.known:
            behind, signs = self.code.tree.read(node, self.code.words[sign])
            self.known[(node, sign)] = (behind, len(signs))
        return self.known[(node, sign)]


class Meetings:
    """As Words, but the amount is 1 where the reader stands at the root behind the word."""

    def __init__(self, code):
        self.words = Words(code)

    def over_sign(self, node, sign):
        """The node behind the word of a sign, and the amount."""
        behind, _ = self.words.over_sign(node, sign)
        return behind, 1 if behind == ROOT else 0


class Stretch:
    """The bits of a text from one place on, ahead of another one.

    They are the head, bits of a sign of which not all are there; the signs from first on, ahead
    of behind; and the tail, the first bits of a sign.
    """

    def __init__(self, coded, place, end):
        self.head = self.tail = ""
        self.first, number = position(coded, place)
        self.behind, left = position(coded, end)
        if number and self.first == self.behind:
            self.head = coded.word_at(self.first)[number:left]
        else:
            if number:
                self.head = coded.word_at(self.first)[number:]
                self.first += 1
            if left:
                self.tail = coded.word_at(self.behind)[:left]
        self.row = coded.text.grammar.pieces(coded.text.grammar.top, self.first, self.behind)


def position(coded, place):
    """The index of the sign that has this bit, and its number in the word; also for the size."""
    return (coded.text.size, 0) if place == coded.size else coded.sign_at(place)


def check_reader(coded, place, node):
    """Raises an error unless a reader may stand at this node at this place."""
    check_place(place, coded.size)
    if not coded.code.tree.has_node(node):
        raise BadNode(node)


def check_place(place, most):
    """Raises BadPlace for any value that is no integer from 0 to most."""
    if not is_between(place, 0, most):
        raise BadPlace(place)


def check_size(many, least, most):
    """Raises BadSize for any value that is no integer from least to most."""
    if not is_between(many, least, most):
        raise BadSize(many)


def read_over(coded, place, node, many):
    """The number of the node behind so many bits, and how many signs are read in them."""
    check_reader(coded, place, node)
    check_size(many, 0, coded.size - place)
    tree = coded.code.tree
    stretch = Stretch(coded, place, place + many)
    at, signs = tree.read(tree.numbers[node], stretch.head)
    at, amount = Orbits(Words(coded.code), coded.text.grammar).over_row(at, stretch.row)
    at, more = tree.read(at, stretch.tail)
    return at, len(signs) + amount + len(more)


def node_behind(coded, place, node, many):
    """Where a reader that stands at this node at this place stands behind so many bits."""
    return coded.code.tree.names[read_over(coded, place, node, many)[0]]


def signs_behind(coded, place, node, many):
    """How many signs it has read in them."""
    return read_over(coded, place, node, many)[1]


def read_sign(coded, place, node, count):
    """The sign that it reads for the time number count, and the place behind it; None if it does not read so many."""
    check_reader(coded, place, node)
    if not is_from(count, 0):
        raise BadCount(count)
    tree, grammar = coded.code.tree, coded.text.grammar
    stretch = Stretch(coded, place, coded.size)
    at, signs = tree.read(tree.numbers[node], stretch.head)
    if count < len(signs):
        sign, bits = sign_in(tree, tree.numbers[node], stretch.head, count)
        return sign, place + bits
    orbits = Orbits(Words(coded.code), grammar)
    _, amount = orbits.over_row(at, stretch.row)
    if count >= len(signs) + amount:
        return None
    passed, at, ahead = orbits.sign_of_amount(at, stretch.row, count - len(signs) + 1)
    index = stretch.first + passed
    sign, bits = sign_in(tree, at, coded.word_at(index), count - len(signs) - ahead)
    return sign, coded.begin_of(index) + bits


def sign_in(tree, node, bits, count):
    """The sign that is read for the time number count in some bits, and how many of them it takes."""
    for index, bit in enumerate(bits):
        node = tree.behind(node, bit)
        if node < 0:
            if count == 0:
                return -1 - node, index + 1
            count -= 1
            node = ROOT
    return None


def right_from(coded, place, node):
    """The least place, from this one on, at which such a reader is right; None if there is none."""
    check_reader(coded, place, node)
    return least_right(coded, place, [coded.code.tree.numbers[node]])


def all_right_from(coded, place):
    """The greatest of these places of all nodes; None if there is none for some."""
    check_place(place, coded.size)
    return least_right(coded, place, list(range(len(coded.code.tree.names))))


def least_right(coded, place, nodes):
    """The least place, from this one on, at which all readers at these nodes are right; None if there is none."""
    stretch = Stretch(coded, place, coded.size)
    if stretch.head:
        nodes = [coded.code.tree.read(node, stretch.head)[0] for node in nodes]
    nodes = away_from_root(nodes)
    if not nodes:
        return coded.begin_of(stretch.first)
    orbits = Orbits(Meetings(coded.code), coded.text.grammar)
    index = stretch.first
    for part, count in stretch.row:
        behind = away_from_root([orbits.over_row(node, [(part, count)])[0] for node in nodes])
        if not behind:
            passed = [orbits.sign_of_amount(node, [(part, count)], 1)[0] for node in nodes]
            return coded.begin_of(index + max(passed) + 1)
        nodes = behind
        index += count * orbits.grammar.size_of(part)
    return None


def away_from_root(nodes):
    """The nodes that are not the root, each once."""
    return [node for node in sorted(set(nodes)) if node != ROOT]


def node_ahead(coded, place):
    """The number of the node at which the right reader stands at the place of a bit."""
    index, number = coded.sign_at(place)
    tree = coded.code.tree
    return tree.numbers[coded.word_at(index)[:number]]


def touched_and_right(coded, place, onward, node):
    """The pair that tells of a damage at a place, behind which a reader goes on at another one, at this node."""
    right = least_right(coded, onward, [node])
    end = coded.size if right is None else right
    if end <= place:
        return 0, right
    return coded.sign_at(end - 1)[0] - coded.sign_at(place)[0] + 1, right


def turned_bit(coded, place):
    """The bit is read as the other one."""
    check_place(place, coded.size - 1)
    other = "0" if coded.bit_at(place) == "1" else "1"
    node = coded.code.tree.behind(node_ahead(coded, place), other)
    return touched_and_right(coded, place, place + 1, max(node, ROOT))


def lost_bits(coded, place, many):
    """So many bits are not read."""
    check_place(place, coded.size - 1)
    check_size(many, 1, coded.size - place)
    return touched_and_right(coded, place, place + many, node_ahead(coded, place))


def check_bits(bits, most):
    """Raises an error unless any value is a string of at most so many bits."""
    wrong = first_wrong_bit(bits)
    if wrong is not None:
        raise BadBits(wrong)
    if len(bits) > most:
        raise TooMany("bits", len(bits), most)


def added_bits(coded, place, bits):
    """These bits are read first."""
    check_place(place, coded.size - 1)
    check_bits(bits, MOST_BITS)
    node, _ = coded.code.tree.read(node_ahead(coded, place), bits)
    return touched_and_right(coded, place, place, node)
