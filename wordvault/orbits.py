"""What a reader does over the rules of a text, found out where it is asked.

Readers have a method that tells what they do over a sign: a pair (state behind, amount), an
integer from 0 on. Such pairs are told for codes, too: amounts are added. Over the copies of a
part the states come to a ring at last: then all the rounds that are left are gone at once.
"""

from wordvault.machines import target_of


class Marks:
    """A machine reads signs: the amount is 1 where it marks a place."""

    def __init__(self, machine):
        self.machine = machine

    def over_sign(self, state, sign):
        """The state behind a sign, and the amount."""
        behind = target_of(self.machine.table[state], sign)
        return behind, 1 if self.machine.kinds[behind] else 0


class Orbits:
    """What a reader does over the codes of a Grammar, from each state that is asked for."""

    def __init__(self, reader, grammar):
        self.reader = reader
        self.grammar = grammar
        # For each rule what is known by states; and the known rings: state -> (ring, index in it).
        self.steps = [{} for _ in grammar.rows]
        self.rings = {}

    def known_step(self, state, code):
        """What is done over one copy of a code, or None if it is not known yet."""
        if code < self.grammar.signs:
            return self.reader.over_sign(state, code)
        return self.steps[code - self.grammar.signs].get(state)

    def over_row(self, state, row):
        """What is done over pairs of codes and counts, one behind the other."""
        whole = Walk(state, None, row)
        todo = [whole]
        while todo:
            walk = todo[-1]
            missing = walk.go_on(self)
            if missing is not None:
                rule = missing[1] - self.grammar.signs
                todo.append(Walk(missing[0], rule, self.grammar.rows[rule]))
            else:
                if walk.rule is not None:
                    self.steps[walk.rule][walk.first] = (walk.state, walk.amount)
                todo.pop()
        return whole.state, whole.amount

    def ring_at(self, code, state):
        """The pair (ring, index in it) of a state over copies of a code, or None."""
        return self.rings.get((code, state))

    def note_ring(self, code, states, amounts):
        """Notes that copies of a code lead round through these states, with an amount for each one."""
        sums = [0]
        for amount in amounts:
            sums.append(sums[-1] + amount)
        ring = (tuple(states), tuple(sums))
        for index, state in enumerate(states):
            self.rings[(code, state)] = (ring, index)

    def sign_of_amount(self, state, row, goal):
        """The first sign of a row behind which the amount is goal at least: (place, state ahead, amount ahead).

        There must be one.
        """
        place, amount = 0, 0
        while True:
            for part, count in row:
                behind, more = self.over_row(state, [(part, count)])
                if amount + more >= goal:
                    passed = self.copies_ahead(state, part, goal - amount)
                    place += passed * self.grammar.size_of(part)
                    state, more = self.over_row(state, [(part, passed)])
                    amount += more
                    break
                state = behind
                amount += more
                place += count * self.grammar.size_of(part)
            if part < self.grammar.signs:
                return place, state, amount
            row = self.grammar.rows[part - self.grammar.signs]

    def copies_ahead(self, state, code, goal):
        """How many copies of a code are passed ahead of the one behind which the amount is goal at least."""
        passed = 0
        step = self.known_step(state, code)
        while goal > step[1]:
            ring = self.ring_at(code, state)
            if ring is not None:
                return passed + copies_in_ring(ring[0], ring[1], goal)
            goal -= step[1]
            passed += 1
            state = step[0]
            step = self.known_step(state, code)
        return passed


def copies_in_ring(ring, index, goal):
    """As copies_ahead, begun at an index of a ring."""
    states, sums = ring
    rounds, rest = divmod(goal - 1 + sums[index], sums[-1])
    at = 0
    while sums[at + 1] <= rest:
        at += 1
    return rounds * len(states) + at - index


class Walk:
    """On the way over the pairs of a rule, or of a row that is none, from a state on."""

    def __init__(self, state, rule, row):
        self.first = state
        self.state = state
        self.rule = rule
        self.row = row
        self.amount = 0
        self.at = 0
        self.copies = None

    def go_on(self, orbits):
        """Goes on as far as steps are known: None at the end, otherwise the pair (state, code) that is missing."""
        while self.at < len(self.row):
            if self.copies is None:
                self.copies = Copies(self.state, self.row[self.at][0], self.row[self.at][1])
            if not self.copies.go_on(orbits):
                return self.copies.state, self.copies.code
            self.state = self.copies.state
            self.amount += self.copies.amount
            self.copies = None
            self.at += 1
        return None


class Copies:
    """On the way over copies of a code, from a state on."""

    def __init__(self, state, code, left):
        self.state = state
        self.code = code
        self.left = left
        self.amount = 0
        self.states = []
        self.amounts = []
        self.places = {}

    def go_on(self, orbits):
        """Goes on as far as steps are known: whether all copies are behind."""
        while self.left > 0:
            ring = orbits.ring_at(self.code, self.state)
            if ring is None and self.state in self.places:
                at = self.places[self.state]
                orbits.note_ring(self.code, self.states[at:], self.amounts[at:])
                ring = orbits.ring_at(self.code, self.state)
            if ring is not None:
                self.go_round(ring[0], ring[1])
                return True
            step = orbits.known_step(self.state, self.code)
            if step is None:
                return False
            self.places[self.state] = len(self.states)
            self.states.append(self.state)
            self.amounts.append(step[1])
            self.state = step[0]
            self.amount += step[1]
            self.left -= 1
        return True

    def go_round(self, ring, index):
        """All that is left, in a ring of states."""
        states, sums = ring
        rounds, rest = divmod(index + self.left, len(states))
        self.amount += rounds * sums[-1] + sums[rest] - sums[index]
        self.state = states[rest]
        self.left = 0
