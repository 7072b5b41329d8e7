"""How many places more one machine marks than another, over all texts of a rule."""

from wordvault.automata import row_to, steps_of, walked
from wordvault.copies import frozen
from wordvault.machines import check_machines, joined_table

MOST_TRIPLES = 600


class Most:
    """There is a greatest excess."""

    def __init__(self, one, other, rule, number, row, heights):
        self.one = frozen(one)
        self.other = frozen(other)
        self.rule = frozen(rule)
        self.number = frozen(number)
        self.row = frozen(row)
        self.heights = frozen(heights)


class Endless:
    """There is no greatest excess: the more rings, the more."""

    def __init__(self, one, other, rule, front, ring, back):
        self.one = frozen(one)
        self.other = frozen(other)
        self.rule = frozen(rule)
        self.front = frozen(front)
        self.ring = frozen(ring)
        self.back = frozen(back)


def excess(one, other, rule):
    """None if the rule has no texts; Most if there is a greatest excess of its texts, otherwise Endless."""
    check_machines(one, other)
    check_machines(one, rule)
    order, table = joined_table([rule.table, one.table, other.table], (rule.start, one.start, other.start),
                                "triples", MOST_TRIPLES)
    gains = [(1 if one.kinds[of_one] else 0) - (1 if other.kinds[of_other] else 0) for _, of_one, of_other in order]
    climb = Climb(table, gains, [rule.kinds[of_rule] for of_rule, _, _ in order])
    state = climb.climb()
    if not any(climb.ends):
        return None
    if state is not None:
        front, ring, back = climb.endless(state)
        return Endless(one, other, rule, front, ring, back)
    heights = sorted([(triple, climb.heights[state]) for state, triple in enumerate(order)], key=lambda pair: pair[0])
    return Most(one, other, rule, climb.heights[0], climb.best_row(0), heights)


class Climb:
    """The greatest gain from each state on, up to an end; each step gains what its target tells.

    ways tell of a state the pair (sign, target) by which its height was found last. As a
    height only grows by a way that is better, ways lead round just if a ring gains.
    """

    def __init__(self, table, gains, ends):
        self.table = table
        self.gains = gains
        self.steps = steps_of(table)
        self.ends = ends
        self.heights = [0 if end else None for end in ends]
        self.ways = [None for _ in table]

    def climb(self):
        """Finds all heights: None; or a state of a ring that gains."""
        changed = True
        while changed:
            changed = False
            for state, steps in enumerate(self.steps):
                for target, sign in steps:
                    height = self.heights[target]
                    if height is None:
                        continue
                    height += self.gains[target]
                    if self.heights[state] is None or height > self.heights[state]:
                        self.heights[state] = height
                        self.ways[state] = (sign, target)
                        changed = True
            ring = self.state_in_ring()
            if ring is not None:
                return ring
        return None

    def state_in_ring(self):
        """A state from which the ways lead back to it, or None."""
        walks = {}
        for start in range(len(self.ways)):
            state = start
            while state not in walks:
                walks[state] = start
                if self.ways[state] is None:
                    break
                state = self.ways[state][1]
            else:
                if walks[state] == start:
                    return state
        return None

    def best_row(self, state):
        """The signs of the ways from a state on to an end."""
        signs = []
        while self.ways[state] is not None:
            sign, state = self.ways[state]
            signs.append(sign)
        return tuple(signs)

    def endless(self, state):
        """Rows front, ring and back; the ring is that of the ways from this state on."""
        ring = []
        at = state
        while not ring or at != state:
            sign, at = self.ways[at]
            ring.append(sign)
        _, came = walked(self.table, 0)
        order, came_on = walked(self.table, state)
        end = [target for target in order if self.ends[target]][0]
        return row_to(came, state), tuple(ring), row_to(came_on, end)
