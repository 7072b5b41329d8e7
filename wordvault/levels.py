"""Texts that are the same, and where others part."""

from wordvault.checks import is_between
from wordvault.errors import BadPlace
from wordvault.shelves import Shelf
from wordvault.squeezes import Letters, Nodes, PairCutter, RunCutter, sides_of
from wordvault.units import Units


def same(one, other):
    """Whether two texts are the same."""
    return one.size == other.size and parted(one, other) is None


def parted(one, other):
    """The least place at which two texts part, None if they are the same."""
    place = alike_behind(one, 0, other, 0)
    if place == one.size and place == other.size:
        return None
    return place


def is_ahead(one, other):
    """Whether they part, and at this place the one has its end or the lesser sign."""
    place = parted(one, other)
    if place is None or place == other.size:
        return False
    return place == one.size or one.sign_of(place) < other.sign_of(place)


def alike_from(one, first, other, second):
    """How many signs from these places on are alike."""
    if not is_between(first, 0, one.size):
        raise BadPlace(first)
    if not is_between(second, 0, other.size):
        raise BadPlace(second)
    return alike_behind(one, first, other, second)


def alike_behind(one, first, other, second):
    """How many signs from these places on are alike."""
    shelf = Shelf(max(one.signs, other.signs))
    code = shelf.laid(shelf.pieces(shelf.laid_in(one.grammar), first, one.size))
    other_code = shelf.laid(shelf.pieces(shelf.laid_in(other.grammar), second, other.size))
    return alike_in(shelf, code, other_code)


def alike_in(shelf, code, other_code):
    """How many signs two codes of a shelf have alike at their beginnings."""
    units = Units(shelf.signs)
    stack, other_stack = units.laid_in(shelf.rows, [code, other_code])
    alike = units.alike_ahead(stack, other_stack)
    if not stack or not other_stack:
        return alike
    if max(stack[-1][0], other_stack[-1][0]) < shelf.signs and stack[-1][0] != other_stack[-1][0]:
        return alike
    return alike + squeezed_apart(units, stack[::-1], other_stack[::-1])


def parted_in(shelf, code, other_code):
    """The least place at which two codes of a shelf part, None if they tell the same."""
    place = alike_in(shelf, code, other_code)
    if place == shelf.grammar.size_of(code) and place == shelf.grammar.size_of(other_code):
        return None
    return place


def squeezed_apart(units, one, other):
    """How many signs two lists of units have alike at their beginnings."""
    nodes = nodes_of(units, [one, other])
    letters = Letters(units.signs)
    alike = 0
    while True:
        letters.new_stage()
        nodes.squeeze(RunCutter(letters))
        alike += taken_off(nodes, letters)
        if any([not nodes.refs[root] and not nodes.gaps[root][0] for root in nodes.roots]):
            return alike
        if all([nodes.gaps[root][0] for root in nodes.roots]):
            readers = [Reader(nodes, letters, root) for root in nodes.roots]
            return alike + read_apart(letters, readers[0], readers[1])
        letters.new_stage()
        left, right = sides_of(letters.weighed(nodes.neighbours()))
        nodes.squeeze(PairCutter(letters, left, right))
        alike += taken_off(nodes, letters)


def nodes_of(units, roots):
    """The Nodes of the units that stand in these lists, or below them; a root for each list."""
    below = {units.leader_of(base): True for root in roots for base, _ in root}
    for base in range(units.signs + len(units.nodes) - 1, units.signs - 1, -1):
        if base in below:
            for part, _ in units.nodes[base - units.signs]:
                below[units.leader_of(part)] = True
    nodes = Nodes()
    told = {}
    cores = {}
    for base in sorted(list(below)):
        if base >= units.signs:
            refs, gaps = row_told(nodes, units, told, cores, units.nodes[base - units.signs])
            told[base] = nodes.added(refs, gaps)
            nodes.order.append(told[base])
    for root in roots:
        refs, gaps = row_told(nodes, units, told, cores, root)
        nodes.roots.append(nodes.added(refs, gaps))
    return nodes


def row_told(nodes, units, told, cores, row):
    """The refs and gaps of a row of units; cores that it needs are made."""
    refs, gaps = [], [()]
    for base, count in row:
        if base < units.signs:
            gaps[-1] = gaps[-1] + ((base, count),)
            continue
        ref = told[units.leader_of(base)]
        if count > 1:
            if (ref, count) not in cores:
                cores[(ref, count)] = nodes.added_core(ref, count - 1)
                nodes.order.append(cores[(ref, count)])
            ref = cores[(ref, count)]
        refs.append(ref)
        gaps.append(())
    return refs, gaps


def taken_off(nodes, letters):
    """Takes off the letters that both roots begin with; the number of their signs."""
    one, other = nodes.roots
    gap, other_gap = nodes.gaps[one][0], nodes.gaps[other][0]
    many = 0
    while many < len(gap) and many < len(other_gap) and gap[many] == other_gap[many]:
        many += 1
    if many:
        nodes.gaps[one][0] = gap[many:]
        nodes.gaps[other][0] = other_gap[many:]
    return sum([letters.sizes[letter] for letter in gap[:many]])


class Reader:
    """Reads a root letter by letter, and opens letters where it is told to.

    Its stack has triples (kind, number, count), the next one last: a letter so often, a
    node, or so many times the gap and the base of a core.
    """

    def __init__(self, nodes, letters, root):
        self.nodes = nodes
        self.letters = letters
        self.stack = [("node", root, 1)]

    def has_letter(self):
        """Opens nodes until a letter is next; whether there is one."""
        while self.stack and self.stack[-1][0] != "letter":
            kind, node, count = self.stack.pop()
            base = self.nodes.bases[node]
            if kind == "core":
                if count > 1:
                    self.stack.append(("core", node, count - 1))
                self.stack.append(("node", base, 1))
                self.put_gap(self.nodes.gaps[node][0])
            elif base is not None:
                self.stack.append(("core", node, self.nodes.times[node]))
                self.stack.append(("node", base, 1))
            else:
                self.put_row(node)
        return len(self.stack) > 0

    def put_row(self, node):
        """Puts what stands in a node on the stack."""
        gaps, refs = self.nodes.gaps[node], self.nodes.refs[node]
        self.put_gap(gaps[-1])
        for at in range(len(refs) - 1, -1, -1):
            self.stack.append(("node", refs[at], 1))
            self.put_gap(gaps[at])

    def put_gap(self, gap):
        """Puts letters on the stack."""
        self.stack.extend([("letter", letter, 1) for letter in gap[::-1]])

    def take_off(self, many):
        """Takes so many copies off the next letter."""
        _, letter, count = self.stack.pop()
        if count > many:
            self.stack.append(("letter", letter, count - many))

    def open_letter(self):
        """Puts the parts of the next letter in its place."""
        letter = self.stack[-1][1]
        self.take_off(1)
        self.stack.extend([("letter", part, count) for part, count in self.letters.parts[letter][::-1]])


def read_apart(letters, one, other):
    """How many signs two Readers have alike; the letter of the later stage is opened where they are unlike."""
    alike = 0
    while one.has_letter() and other.has_letter():
        (_, letter, count), (_, other_letter, other_count) = one.stack[-1], other.stack[-1]
        stage, other_stage = letters.stages[letter], letters.stages[other_letter]
        if letter == other_letter:
            both = min(count, other_count)
            alike += both * letters.sizes[letter]
            one.take_off(both)
            other.take_off(both)
        elif stage == 0 and other_stage == 0:
            return alike
        else:
            if stage >= other_stage:
                one.open_letter()
            if other_stage >= stage:
                other.open_letter()
    return alike
