"""What a machine does over the rules of a text, found out where it is asked.

Steps are pairs (state behind, how many places are marked). Over the copies of a part
the states come to a ring at last: then all the rounds that are left are gone at once.
"""

from wordvault.machines import target_of


class Orbits:
    """The steps of the codes of a Grammar, from each state that is asked for."""

    def __init__(self, machine, grammar):
        self.machine = machine
        self.grammar = grammar
        # For each rule the known steps by states, and the known rings: state -> (ring, index in it).
        self.steps = [{} for _ in grammar.rows]
        self.rings = {}

    def known_step(self, state, code):
        """The step over one copy of a code, or None if it is not known yet."""
        if code < self.grammar.signs:
            behind = target_of(self.machine.table[state], code)
            return behind, 1 if self.machine.kinds[behind] else 0
        return self.steps[code - self.grammar.signs].get(state)

    def find_steps(self, state, code):
        """Makes the step over one copy of a code known, and all steps that it needs."""
        todo = [] if self.known_step(state, code) is not None else [Walk(state, code, self.grammar)]
        while todo:
            walk = todo[-1]
            missing = walk.go_on(self)
            if missing is None:
                self.steps[walk.code - self.grammar.signs][walk.first] = (walk.state, walk.marked)
                todo.pop()
            else:
                todo.append(Walk(missing[0], missing[1], self.grammar))

    def over_copies(self, state, code, count):
        """The step over so many copies of a code, all steps being known."""
        copies = Copies(state, code, count)
        copies.go_on(self)
        return copies.state, copies.marked

    def ring_at(self, code, state):
        """The pair (ring, index in it) of a state over copies of a code, or None."""
        return self.rings.get((code, state))

    def note_ring(self, code, states, marks):
        """Notes that copies of a code lead round through these states, marking so much behind each one."""
        sums = [0]
        for many in marks:
            sums.append(sums[-1] + many)
        ring = (tuple(states), tuple(sums))
        for index, state in enumerate(states):
            self.rings[(code, state)] = (ring, index)


class Walk:
    """On the way over the pairs of a rule, from a state on."""

    def __init__(self, state, code, grammar):
        self.first = state
        self.state = state
        self.code = code
        self.marked = 0
        self.row = grammar.rows[code - grammar.signs]
        self.at = 0
        self.copies = None

    def go_on(self, orbits):
        """Goes on as far as steps are known: None at the end, otherwise the pair (state, code) that is missing."""
        while self.at < len(self.row):
            if self.copies is None:
                self.copies = Copies(self.state, self.row[self.at][0], self.row[self.at][1])
            if not self.copies.go_on(orbits):
                return self.copies.state, self.copies.code
            self.state = self.copies.state
            self.marked += self.copies.marked
            self.copies = None
            self.at += 1
        return None


class Copies:
    """On the way over copies of a code, from a state on."""

    def __init__(self, state, code, left):
        self.state = state
        self.code = code
        self.left = left
        self.marked = 0
        self.states = []
        self.marks = []
        self.places = {}

    def go_on(self, orbits):
        """Goes on as far as steps are known: whether all copies are behind."""
        while self.left > 0:
            ring = orbits.ring_at(self.code, self.state)
            if ring is None and self.state in self.places:
                at = self.places[self.state]
                orbits.note_ring(self.code, self.states[at:], self.marks[at:])
                ring = orbits.ring_at(self.code, self.state)
            if ring is not None:
                self.go_round(ring[0], ring[1])
                return True
            step = orbits.known_step(self.state, self.code)
            if step is None:
                return False
            self.places[self.state] = len(self.states)
            self.states.append(self.state)
            self.marks.append(step[1])
            self.state = step[0]
            self.marked += step[1]
            self.left -= 1
        return True

    def go_round(self, ring, index):
        """All that is left, in a ring of states."""
        states, sums = ring
        rounds, rest = divmod(index + self.left, len(states))
        self.marked += rounds * sums[-1] + sums[rest] - sums[index]
        self.state = states[rest]
        self.left = 0
