"""The parts and items of a pattern, and the standings of its readings."""

from wordvault.checks import is_tuple_of
from wordvault.errors import BadPart, TooMany

MOST_PARTS = 60
MOST_STANDINGS = 2000


def is_part(value):
    """Whether it is a part as far as can be told without its own parts and items."""
    if not isinstance(value, tuple) or not value or not isinstance(value[0], str):
        return False
    if value[0] == "row":
        return len(value) == 2 and isinstance(value[1], tuple)
    if value[0] == "not":
        return is_tuple_of(value, 2)
    return value[0] in ("both", "either")


def is_item(value, letters):
    """Whether it is an item of a row over the letters."""
    if not isinstance(value, str) or not value:
        return False
    if value in ("?", "*"):
        return True
    return all([letter in letters for letter in value]) and len(set(value)) == len(value)


def nodes_of(shape, letters):
    """All parts in the order of reading, as pairs (kind, indexes of the parts in it); for a row (kind, items)."""
    nodes = []
    todo = [((), shape, None)]
    many = 0
    while todo:
        path, value, above = todo.pop()
        many += 1
        if not is_part(value):
            raise BadPart(path)
        if above is not None:
            nodes[above][1].append(len(nodes))
        if value[0] == "row":
            for number, item in enumerate(value[1]):
                if not is_item(item, letters):
                    raise BadPart(path + (1, number))
            many += len(value[1])
            nodes.append(("row", list(value[1])))
        else:
            nodes.append((value[0], []))
            for place in range(len(value) - 1, 0, -1):
                todo.append((path + (place,), value[place], len(nodes) - 1))
    if many > MOST_PARTS:
        raise TooMany("parts", many, MOST_PARTS)
    return nodes


class Readings:
    """How letters lead from standing to standing.

    A standing is a number with a bit for each place of each row; the places of the
    rows stand one behind the other, so that one shift moves the readings of all rows.
    """

    def __init__(self, shape, letters):
        self.letters = letters
        self.nodes = nodes_of(shape, letters)
        self.stars = 0
        self.takes = [0 for _ in letters]
        self.start = 0
        self.ends = {}
        place = 0
        for node, (kind, items) in enumerate(self.nodes):
            if kind == "row":
                self.start |= 1 << place
                for item in items:
                    self.lay_item(item, 1 << place)
                    place += 1
                self.ends[node] = 1 << place
                place += 1
        self.start = self.passed(self.start)

    def lay_item(self, item, bit):
        """Notes what is read at the place with this bit."""
        if item == "*":
            self.stars |= bit
        else:
            for column, letter in enumerate(self.letters):
                if item == "?" or letter in item:
                    self.takes[column] |= bit

    def passed(self, standing):
        """The standing with the places that are come to without a letter."""
        more = standing | ((standing & self.stars) << 1)
        while more != standing:
            standing = more
            more = standing | ((standing & self.stars) << 1)
        return standing

    def fits(self, standing):
        """Whether a word that leads to this standing fits."""
        told = {}
        for node in range(len(self.nodes) - 1, -1, -1):
            kind, parts = self.nodes[node]
            if kind == "row":
                told[node] = standing & self.ends[node] != 0
            elif kind == "not":
                told[node] = not told[parts[0]]
            elif kind == "both":
                told[node] = all([told[part] for part in parts])
            else:
                told[node] = any([told[part] for part in parts])
        return told[0]

    def moves_from(self, standing):
        """The standings to which the letters lead, in their order."""
        behind = {}
        moves = []
        for taken in self.takes:
            if taken not in behind:
                behind[taken] = self.passed(((standing & taken) << 1) | (standing & self.stars))
            moves.append(behind[taken])
        return moves

    def all_moves(self):
        """Pairs: for each standing, in the order of least words, where the letters lead, and whether words fit."""
        numbers = {self.start: 0}
        order = [self.start]
        moves = []
        while len(moves) < len(order):
            row = []
            for standing in self.moves_from(order[len(moves)]):
                if standing not in numbers:
                    if len(order) == MOST_STANDINGS:
                        raise TooMany("standings", MOST_STANDINGS + 1, MOST_STANDINGS)
                    numbers[standing] = len(order)
                    order.append(standing)
                row.append(numbers[standing])
            moves.append(tuple(row))
        return moves, [self.fits(standing) for standing in order]
