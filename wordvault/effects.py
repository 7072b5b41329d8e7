"""What stretches of bits do to the state of a guard: v becomes A v + b, a pair (A, b)."""

from wordvault.matrices import applied, product


class Effects:
    """The effects of the codes of a Grammar of bits, found out where they are asked for."""

    def __init__(self, guard, grammar):
        self.guard = guard
        self.grammar = grammar
        self.known = {}
        for bit in range(2):
            self.known[bit] = (guard.matrix, applied(guard.modulus, guard.columns, (bit,)))

    def over_row(self, state, row):
        """The state behind pairs of codes and counts."""
        self.find([code for code, _ in row])
        for code, count in row:
            state = self.over_copies(state, self.known[code], count)
        return state

    def over_copies(self, state, effect, count):
        """The state behind an effect that comes so often."""
        while count > 0:
            if count & 1:
                matrix, shift = effect
                state = self.guard.added(applied(self.guard.modulus, matrix, state), shift)
            count >>= 1
            if count:
                effect = self.chained(effect, effect)
        return state

    def find(self, codes):
        """Makes the effects of codes known, and of all codes below them."""
        below = {code: True for code in codes if code not in self.known}
        signs = self.grammar.signs
        for rule in range(len(self.grammar.rows) - 1, -1, -1):
            if rule + signs in below:
                for part, _ in self.grammar.rows[rule]:
                    if part not in self.known:
                        below[part] = True
        for code in sorted(list(below)):
            self.known[code] = self.effect_of(self.grammar.rows[code - signs])

    def effect_of(self, row):
        """The effect of pairs, all of whose codes are known."""
        whole = None
        for code, count in row:
            effect = self.repeated(self.known[code], count)
            whole = effect if whole is None else self.chained(whole, effect)
        return whole

    def repeated(self, effect, count):
        """An effect so often, once at least."""
        whole = None
        while count > 0:
            if count & 1:
                whole = effect if whole is None else self.chained(whole, effect)
            count >>= 1
            if count:
                effect = self.chained(effect, effect)
        return whole

    def chained(self, one, other):
        """One effect, then the other one."""
        matrix, shift = one
        behind, more = other
        modulus = self.guard.modulus
        return product(modulus, behind, matrix), self.guard.added(applied(modulus, behind, shift), more)
