"""Most marked places in texts of one size."""

from wordvault.automata import steps_of
from wordvault.checks import is_between
from wordvault.copies import frozen
from wordvault.errors import BadSize
from wordvault.machines import check_machines, paired_table

MOST_PAIRS = 16
MOST_SIZE = 10 ** 30


class Busiest:
    """The front, the ring in rounds and the back are a text with most marked places."""

    def __init__(self, machine, rule, size, many, front, ring, rounds, back):
        self.machine = frozen(machine)
        self.rule = frozen(rule)
        self.size = frozen(size)
        self.many = frozen(many)
        self.front = frozen(front)
        self.ring = frozen(ring)
        self.rounds = frozen(rounds)
        self.back = frozen(back)


def busiest(machine, rule, size):
    """Most marked places in a text of the rule of so many signs; None if it has none."""
    check_machines(machine, rule)
    if not is_between(size, 0, MOST_SIZE):
        raise BadSize(size)
    pairs, table = paired_table(rule, machine, "pairs", MOST_PAIRS)
    ways = Ways(table, [1 if machine.kinds[state] else 0 for _, state in pairs],
                [rule.kinds[of_rule] for of_rule, _ in pairs])
    # Of n pairs there is a best text with 2 n n signs, at most, outside of its ring.
    if size <= 2 * len(pairs) * len(pairs):
        layers = ways.layers_from(0, size)
        end = best_end(layers[size], ways.ends)
        if end is None:
            return None
        return Busiest(machine, rule, size, layers[size][end][0], ways.signs_to(layers, size, end), (), 0, ())
    best = ways.best_round(size)
    if best is None:
        return None
    many, state, around, ahead, behind = best
    layers = ways.layers_from(state, max(around, behind))
    return Busiest(machine, rule, size, many, ways.signs_to(ways.layers_from(0, ahead), ahead, state),
                   ways.signs_to(layers, around, state), (size - ahead - behind) // around,
                   ways.signs_to(layers, behind, best_end(layers[behind], ways.ends)))


def best_end(layer, ends):
    """The end with the greatest gain in a layer, or None."""
    best = None
    for state, entry in enumerate(layer):
        if ends[state] and entry is not None and (best is None or entry[0] > layer[best][0]):
            best = state
    return best


class Ways:
    """The ways over few states, layer by layer: layer i tells of the ways of i signs.

    Entries of a layer are triples (gain, state ahead, sign), or None where no way leads.
    """

    def __init__(self, table, gains, ends):
        self.gains = gains
        self.ends = ends
        self.steps = steps_of(table)

    def next_layer(self, layer):
        """The layer behind."""
        behind = [None for _ in layer]
        for state, entry in enumerate(layer):
            if entry is not None:
                for target, sign in self.steps[state]:
                    gain = entry[0] + self.gains[target]
                    if behind[target] is None or gain > behind[target][0]:
                        behind[target] = (gain, state, sign)
        return behind

    def layers_from(self, start, most):
        """The layers 0 to most of the ways from a state."""
        layers = [[None for _ in self.steps]]
        layers[0][start] = (0, None, None)
        for _ in range(most):
            layers.append(self.next_layer(layers[-1]))
        return layers

    def signs_to(self, layers, size, state):
        """The signs of the way of this size to a state."""
        signs = []
        while size > 0:
            _, ahead, sign = layers[size][state]
            signs.append(sign)
            state = ahead
            size -= 1
        return tuple(signs[::-1])

    def best_round(self, size):
        """The best (gain, state, signs of a ring at it, signs ahead of it, signs behind it) of a size; or None."""
        best = None
        fronts = self.layers_from(0, 2 * len(self.steps) * len(self.steps))
        for state in range(len(self.steps)):
            layers = self.layers_from(state, len(fronts) - 1)
            outside = outside_gains([layer[state] for layer in fronts], layers, self.ends)
            for around in range(1, len(self.steps) + 1):
                if layers[around][state] is None:
                    continue
                for signs in range(size % around, len(outside), around):
                    if outside[signs] is not None:
                        many = outside[signs][0] + (size - signs) // around * layers[around][state][0]
                        if best is None or many > best[0]:
                            best = (many, state, around, outside[signs][1], signs - outside[signs][1])
        return best


def outside_gains(fronts, layers, ends):
    """For each number of signs the best pair (gain, signs ahead) of a front and a back together, or None."""
    ahead = [(size, entry[0]) for size, entry in enumerate(fronts) if entry is not None]
    told = [None for _ in layers]
    for size, layer in enumerate(layers):
        end = best_end(layer, ends)
        if end is None:
            continue
        for signs, gain in ahead:
            if signs + size >= len(told):
                break
            if told[signs + size] is None or gain + layer[end][0] > told[signs + size][0]:
                told[signs + size] = (gain + layer[end][0], signs)
    return told
