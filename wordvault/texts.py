"""Texts: rows of signs, told by rules."""

from wordvault.automata import components
from wordvault.checks import is_between, is_from, is_list
from wordvault.errors import (BadCount, BadPlace, BadRule, BadSign, BadSigns, NoRule, Ring, TooMany)
from wordvault.grammars import grammar_of
from wordvault.names import is_name

MOST_SIGNS = 2000
MOST_RULES = 2000
MOST_PAIRS = 40
MOST_COUNT = 10 ** 30
MOST_TOLD = 2000


class Text:
    """The row of signs of one rule, the root."""

    def __init__(self, signs, rules, root):
        if not is_between(signs, 1, MOST_SIGNS):
            raise BadSigns(signs)
        if not 1 <= len(rules) <= MOST_RULES:
            raise TooMany("rules", len(rules), MOST_RULES)
        for name, row in rules.items():
            if not is_name(name) or not is_rule(row, signs, rules):
                raise BadRule(name)
        self.signs = signs
        self._rules = {name: tuple([(part, count) for part, count in rules[name]]) for name in rules}
        order = names_bottom_up(self._rules)
        if not isinstance(root, str) or root not in self._rules:
            raise NoRule(root)
        self.root = root
        below = names_below(self._rules, order, root)
        self.depth = depth_of(self._rules, below)
        self.grammar = grammar_of(signs, self._rules, below)
        self.size = self.grammar.size_of(self.grammar.top)

    def __eq__(self, other):
        return (isinstance(other, Text) and self.signs == other.signs and self._rules == other._rules
                and self.root == other.root)

    @property
    def rules(self):
        """The rules, a dict that is new each time."""
        return dict(self._rules)

    def sign_of(self, place):
        """The sign at a place."""
        if not is_between(place, 0, self.size - 1):
            raise BadPlace(place)
        return self.grammar.sign_at(place)

    def part(self, place, many):
        """The tuple of so many signs from this place on."""
        if not is_between(many, 0, MOST_TOLD):
            raise TooMany("signs", many, MOST_TOLD)
        if not is_between(place, 0, self.size - many):
            raise BadPlace(place)
        return tuple(self.grammar.signs_from(place, many))

    def tally(self):
        """How often each sign comes."""
        return self.grammar.tally()

    def ahead(self, place):
        """How often each sign comes ahead of a place."""
        if not is_between(place, 0, self.size):
            raise BadPlace(place)
        return self.grammar.tally_ahead(place)

    def place_of(self, sign, count):
        """Where a sign comes for the time number count, from 0 on; None if it does not come so often."""
        if not is_between(sign, 0, self.signs - 1):
            raise BadSign(sign)
        if not is_from(count, 0):
            raise BadCount(count)
        return self.grammar.place_of(sign, count)


def is_rule(row, signs, rules):
    """Whether it is a list of pairs of a sign or one of the names, and a count."""
    return is_list(row) and len(row) <= MOST_PAIRS and all([is_rule_pair(pair, signs, rules) for pair in row])


def is_rule_pair(pair, signs, rules):
    """Whether it is a pair of a sign or one of the names, and a count."""
    if not is_list(pair) or len(pair) != 2:
        return False
    part, count = pair
    if not is_between(count, 1, MOST_COUNT):
        return False
    return is_between(part, 0, signs - 1) or (is_name(part) and part in rules)


def names_bottom_up(rules):
    """All names, each one behind those in its rule; raises Ring if one stands below itself."""
    names = sorted(list(rules))
    numbers = {name: number for number, name in enumerate(names)}
    nexts = [[numbers[part] for part, _ in rules[name] if isinstance(part, str)] for name in names]
    rings = components(nexts)
    many = {}
    for ring in rings:
        many[ring] = many.get(ring, 0) + 1
    for number, name in enumerate(names):
        if many[rings[number]] > 1 or number in nexts[number]:
            raise Ring(name)
    return sorted(names, key=lambda name: rings[numbers[name]])


def names_below(rules, order, root):
    """The root and the names below it, in the order of all names."""
    below = {root: True}
    for name in order[::-1]:
        if name in below:
            for part, _ in rules[name]:
                if isinstance(part, str):
                    below[part] = True
    return [name for name in order if name in below]


def depth_of(rules, names):
    """How many names stand within one another at most; names end with the root."""
    depths = {}
    for name in names:
        depths[name] = 1 + max([depths[part] for part, _ in rules[name] if isinstance(part, str)], default=0)
    return depths[names[-1]]
