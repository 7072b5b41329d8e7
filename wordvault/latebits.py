"""Searchers that are begun late, and searchers that tell early."""

from wordvault.automata import components, laid_out, row_to, walked
from wordvault.checks import is_between, is_from, is_tuple_of
from wordvault.codes import Code, first_wrong_bit
from wordvault.copies import frozen
from wordvault.errors import BadNode, TooMany
from wordvault.machines import Machine
from wordvault.standings import BITS, check_code_machine, node_or_sign, searcher_of, standing_behind, tells_behind

MOST_PAIRS = 2000

# The state of a right standing ahead of the end of the first sign.
NOT_YET = -1


class Late:
    """How late a searcher that is begun at a node tells what is not right, or does not tell what is."""

    def __init__(self, code, machine, node, most, bits, ring, back, heights):
        self.code = frozen(code)
        self.machine = frozen(machine)
        self.node = frozen(node)
        self.most = frozen(most)
        self.bits = frozen(bits)
        self.ring = frozen(ring)
        self.back = frozen(back)
        self.heights = frozen(heights)


class Pairs:
    """Pairs of a right standing and a late one, and how bits lead them on together."""

    def __init__(self, code, machine, node):
        check_code_machine(code, machine)
        if not code.tree.has_node(node) or node == "":
            raise BadNode(node)
        self.code = code
        self.machine = machine
        self.first = ((NOT_YET, node), (machine.start, ""))

    def behind(self, pair, bit):
        """The pair behind a bit, and whether just one of the two tells there."""
        right, late = pair
        late_behind, late_tells = tells_behind(self.code, self.machine, late, bit)
        if right[0] != NOT_YET:
            right_behind, right_tells = tells_behind(self.code, self.machine, right, bit)
        else:
            node, sign = node_or_sign(self.code, right[1], bit)
            right_behind = (NOT_YET, node) if sign is None else (self.machine.start, "")
            right_tells = False
        return (right_behind, late_behind), right_tells != late_tells

    def over_bits(self, pair, bits):
        """The pair behind some bits, and whether the last tell is unlike."""
        unlike = False
        for bit in bits:
            pair, unlike = self.behind(pair, bit)
        return pair, unlike

    def is_pair(self, right, late):
        """Whether any two values are such a pair."""
        if not self.is_standing(late, 0) or not self.is_standing(right, NOT_YET):
            return False
        return right[0] != NOT_YET or right[1] != ""

    def is_standing(self, value, least):
        """Whether any value is a pair of a state, from least on, and a node."""
        if not is_tuple_of(value, 2) or not self.code.tree.has_node(value[1]):
            return False
        return is_between(value[0], least, len(self.machine.table) - 1)


def last_unlike(code, machine, node):
    """The greatest number of bits behind which an unlike tell comes."""
    pairs = Pairs(code, machine, node)
    order, steps = pairs_that_come_up(pairs)
    heights = heights_of(steps)
    if None in heights:
        bits, ring, back = endless_rows(steps, heights)
        return Late(code, machine, node, None, bits, ring, back, ())
    table = sorted([(right, late, heights[number]) for number, (right, late) in enumerate(order)])
    return Late(code, machine, node, heights[0], highest_row(steps, heights), "", "", table)


def pairs_that_come_up(pairs):
    """The pairs, and for each one the steps (bit, number of the pair behind, whether the tell is unlike)."""
    numbers = {pairs.first: 0}
    order = [pairs.first]
    steps = []
    while len(steps) < len(order):
        row = []
        for bit in BITS:
            behind, unlike = pairs.behind(order[len(steps)], bit)
            if behind not in numbers:
                if len(order) == MOST_PAIRS:
                    raise TooMany("pairs", MOST_PAIRS + 1, MOST_PAIRS)
                numbers[behind] = len(order)
                order.append(behind)
            row.append((bit, numbers[behind], unlike))
        steps.append(row)
    return order, steps


def rings_of(steps):
    """For each pair the number of its ring; those behind a ring have lesser numbers."""
    return components([[step[1] for step in row] for row in steps])


def heights_of(steps):
    """For each pair the greatest number of bits behind which an unlike tell comes; None if there is no greatest one."""
    rings = rings_of(steps)
    members = {}
    for number, ring in enumerate(rings):
        members.setdefault(ring, []).append(number)
    heights = [0] * len(steps)
    # The heights behind a ring are known.
    for ring in sorted(list(members)):
        turns = [target for number in members[ring] for _, target, _ in steps[number] if rings[target] == ring]
        found = [height_by(step, heights) for number in members[ring] for step in steps[number]]
        endless = None in found or (turns and any([height > 0 for height in found]))
        for number in members[ring]:
            heights[number] = None if endless else max(found)
    return heights


def height_by(step, heights):
    """The greatest number of bits behind which an unlike tell comes that begins with a step."""
    _, target, unlike = step
    if heights[target] is None:
        return None
    if heights[target] > 0:
        return heights[target] + 1
    return 1 if unlike else 0


def highest_row(steps, heights):
    """The bits behind the last one of which the last unlike tell comes."""
    bits = []
    number = 0
    while heights[number] > 0:
        bit, number = [(bit, target) for bit, target, unlike in steps[number]
                       if height_by((bit, target, unlike), heights) == heights[number]][0]
        bits.append(bit)
    return "".join(bits)


def endless_rows(steps, heights):
    """Bits to a pair, a ring from it to itself, and bits behind the last of which a tell is unlike."""
    rings = rings_of(steps)
    table = [[step[:2] for step in row] for row in steps]
    order, came = walked(table, 0)
    for number in order:
        again = [step for step in table[number] if rings[step[1]] == rings[number]]
        if heights[number] is None and again:
            bit, target = again[0]
            _, came_round = walked(table, target)
            ring = bit + "".join(row_to(came_round, number))
            return "".join(row_to(came, number)), ring, unlike_row(steps, table, number)
    return None


def unlike_row(steps, table, number):
    """The least bits from a pair on behind the last of which the tell is unlike."""
    order, came = walked(table, number)
    for behind in order:
        for bit, _, unlike in steps[behind]:
            if unlike:
                return "".join(row_to(came, behind)) + bit
    return None


def is_late(late):
    """Whether it is so, for any such rows of bits, and any heights that are great enough."""
    if not isinstance(late.code, Code) or not isinstance(late.machine, Machine):
        return False
    pairs = Pairs(late.code, late.machine, late.node)
    for bits in (late.bits, late.ring, late.back):
        if first_wrong_bit(bits) is not None:
            return False
    if late.most is None:
        return late.heights == () and is_endless(pairs, late)
    if not is_from(late.most, 0) or late.ring or late.back or len(late.bits) != late.most:
        return False
    if late.bits and not pairs.over_bits(pairs.first, late.bits)[1]:
        return False
    return are_heights(pairs, late)


def is_endless(pairs, late):
    """Whether the ring leads back, and behind the back the tell is unlike."""
    if not late.ring or not late.back:
        return False
    pair, _ = pairs.over_bits(pairs.first, late.bits)
    return pairs.over_bits(pair, late.ring)[0] == pair and pairs.over_bits(pair, late.back)[1]


def are_heights(pairs, late):
    """Whether heights has the first pair, with each pair those behind it, and none is too small."""
    if not isinstance(late.heights, tuple):
        return False
    heights = {}
    for told in late.heights:
        if not is_tuple_of(told, 3) or not pairs.is_pair(told[0], told[1]) or not is_from(told[2], 0):
            return False
        if told[:2] in heights:
            return False
        heights[told[:2]] = told[2]
    if heights.get(pairs.first) != late.most:
        return False
    for pair, height in heights.items():
        for bit in BITS:
            behind, unlike = pairs.behind(pair, bit)
            if behind not in heights or (unlike and height < 1) or 0 < heights[behind] >= height:
                return False
    return True


def soonest_search(code, machine):
    """The searcher that tells at the first bit of a word behind which it is sure that the machine will tell."""
    check_code_machine(code, machine)
    return searcher_of(Soonest(code, machine))


class Soonest:
    """Triples (state, node, whether it tells there)."""

    def __init__(self, code, machine):
        self.code = code
        self.machine = machine
        self.first = (machine.start, "", False)
        self.known = {}

    def is_sure(self, state, node):
        """Whether the machine tells behind each sign whose word begins with these bits, one at least."""
        if node == "":
            return False
        if state not in self.known:
            tells = [self.machine.kinds[target] for target in laid_out(self.machine.table[state], self.code.size)]
            self.known[state] = self.code.tree.nodes_over(tells, True)
        return self.known[state][self.code.tree.numbers[node]]

    def state_behind(self, told, bit):
        """The triple behind a bit."""
        state, node, _ = told
        (behind, below), ended = standing_behind(self.code, self.machine, (state, node), bit)
        sure = self.machine.kinds[behind] if ended else self.is_sure(state, below)
        return behind, below, sure and not self.is_sure(state, node)

    def is_marked(self, told):
        """Whether the searcher tells there."""
        return told[2]
