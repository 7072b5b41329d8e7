"""What stretches of bits do to the state of a guard.

Behind a stretch the state v has become P v + Q G, P being a power of A, Q a sum of
powers of it: the effect of the stretch is the pair (P, Q), as polynomials of A.
"""

from wordvault.powers import Powers


class Effects:
    """The effects of the codes of a Grammar of bits, found out where they are asked for."""

    def __init__(self, guard, grammar):
        self.guard = guard
        self.grammar = grammar
        self.powers = Powers(guard.modulus, guard.matrix)
        self.columns = tuple([row[0] for row in guard.columns])
        self.known = {0: (self.powers.root, 0), 1: (self.powers.root, self.powers.unit)}

    def over_row(self, state, row):
        """The state behind pairs of codes and counts."""
        self.find([code for code, _ in row])
        power, more = self.effect_of(row)
        return self.guard.added(self.powers.applied_to(power, state), self.powers.applied_to(more, self.columns))

    def find(self, codes):
        """Makes the effects of codes known, and of all codes below them."""
        below = {code: True for code in codes if code not in self.known}
        signs = self.grammar.signs
        for rule in range(len(self.grammar.rows) - 1, -1, -1):
            if rule + signs in below:
                for part, _ in self.grammar.rows[rule]:
                    if part not in self.known:
                        below[part] = True
        for code in sorted(list(below)):
            self.known[code] = self.effect_of(self.grammar.rows[code - signs])

    def effect_of(self, row):
        """The effect of pairs, all of whose codes are known."""
        whole = (self.powers.unit, 0)
        for code, count in row:
            effect = self.known[code]
            while count > 0:
                if count & 1:
                    whole = self.chained(whole, effect)
                count >>= 1
                if count:
                    effect = self.chained(effect, effect)
        return whole

    def chained(self, one, other):
        """One effect, then the other one."""
        power, more = one
        behind, added = other
        return self.powers.times(power, behind), self.powers.plus(self.powers.times(more, behind), added)
