"""Texts that a rule allows, as they come bit by bit. A rule is a machine over the signs, or None: then all are."""

from wordvault.automata import laid_out, row_to, states_ahead, walked
from wordvault.checks import is_between
from wordvault.machines import target_of
from wordvault.standings import node_or_sign


class Allowed:
    """From which states and nodes allowed texts can be come to."""

    def __init__(self, code, rule):
        self.code = code
        self.rule = rule
        self.nodes = {}
        if rule is not None:
            self.ends = ends_ahead(rule)

    def is_state(self, value):
        """Whether any value is a state of the rule, or None without one."""
        if self.rule is None:
            return value is None
        return is_between(value, 0, len(self.rule.table) - 1)

    def is_alive(self, state, node):
        """Whether some signs, the first of which begins with the node, lead to an allowed text."""
        if self.rule is None:
            return True
        if node == "":
            return self.ends[state]
        return self.nodes_alive(state)[self.code.tree.numbers[node]]

    def nodes_alive(self, state):
        """For each node whether a sign below it leads from this state to one with allowed texts."""
        if state not in self.nodes:
            good = [self.ends[target] for target in laid_out(self.rule.table[state], self.code.size)]
            self.nodes[state] = self.code.tree.nodes_over(good, False)
        return self.nodes[state]

    def state_behind(self, state, node, bit):
        """The state of the rule behind a bit that is read at a node."""
        _, sign = node_or_sign(self.code, node, bit)
        if self.rule is None or sign is None:
            return state
        return target_of(self.rule.table[state], sign)

    def text_with(self, bits):
        """An allowed text whose bits begin with these; there must be one."""
        tree = self.code.tree
        node, signs = tree.read(0, bits)
        state = None if self.rule is None else self.rule.state_behind(self.rule.start, signs)
        while node > 0:
            node = self.way_down(state, node)
            if node < 0:
                signs.append(-1 - node)
                state = None if self.rule is None else target_of(self.rule.table[state], signs[-1])
        if self.rule is None:
            return tuple(signs)
        order, came = walked(self.rule.table, state)
        end = [target for target in order if self.rule.kinds[target]][0]
        return tuple(signs) + row_to(came, end)

    def way_down(self, state, node):
        """A node or sign straight below a node, from which an allowed text can be come to."""
        below = self.code.tree.zeros[node]
        if self.rule is None:
            return below
        if below >= 0:
            fits = self.nodes_alive(state)[below]
        else:
            fits = self.ends[target_of(self.rule.table[state], -1 - below)]
        return below if fits else self.code.tree.ones[node]


def ends_ahead(machine):
    """For each state whether a text can be come to from it."""
    ahead = states_ahead(machine.table)
    ends = list(machine.kinds)
    todo = list(machine.marks)
    while todo:
        for state in ahead[todo.pop()]:
            if not ends[state]:
                ends[state] = True
                todo.append(state)
    return ends
