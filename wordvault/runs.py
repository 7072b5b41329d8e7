"""Machines in texts by rules."""

from wordvault.checks import is_between
from wordvault.errors import BadPlace
from wordvault.grammars import EMPTY
from wordvault.machines import check_machines
from wordvault.orbits import Orbits


class Run:
    """A machine reads a text."""

    def __init__(self, machine, text):
        check_machines(machine, text)
        self.machine = machine
        self.text = text
        self._orbits = Orbits(machine, text.grammar)
        self.many = 0
        self.end = machine.start
        if text.grammar.top != EMPTY:
            self._orbits.find_steps(machine.start, text.grammar.top)
            self.end, self.many = self._orbits.known_step(machine.start, text.grammar.top)

    def _check_place(self, place):
        if not is_between(place, 0, self.text.size):
            raise BadPlace(place)

    def _behind(self, place):
        # The state behind the signs ahead of a place, and how many of them are marked.
        if place == self.text.size:
            return self.end, self.many
        grammar = self.text.grammar
        state, marked = self.machine.start, 0
        code = grammar.top
        while place > 0:
            for part, count in grammar.row_of(code):
                size = grammar.size_of(part)
                passed = min(count, place // size)
                state, more = self._orbits.over_copies(state, part, passed)
                marked += more
                place -= passed * size
                if passed < count:
                    code = part
                    break
        return state, marked

    def state_at(self, place):
        """The state behind the signs ahead of a place."""
        self._check_place(place)
        return self._behind(place)[0]

    def number_ahead(self, place):
        """How many marked places are less."""
        self._check_place(place)
        return self._behind(place)[1]

    def first_from(self, place):
        """The least marked place that is not less, or None."""
        number = self.number_ahead(place)
        return self.place_at(number) if number < self.many else None

    def last_ahead(self, place):
        """The greatest marked place that is less, or None."""
        number = self.number_ahead(place)
        return self.place_at(number - 1) if number > 0 else None

    def place_at(self, number):
        """The marked place with so many ahead."""
        if not is_between(number, 0, self.many - 1):
            raise BadPlace(number)
        grammar = self.text.grammar
        state, code, place = self.machine.start, grammar.top, 0
        while code >= grammar.signs:
            for part, count in grammar.row_of(code):
                behind, marked = self._orbits.over_copies(state, part, count)
                if number < marked:
                    passed = self._copies_ahead(state, part, number)
                    place += passed * grammar.size_of(part)
                    state, marked = self._orbits.over_copies(state, part, passed)
                    number -= marked
                    code = part
                    break
                number -= marked
                state = behind
                place += count * grammar.size_of(part)
        return place

    def _copies_ahead(self, state, code, number):
        # How many copies of a code are passed ahead of the one that has the marked place with this number.
        passed = 0
        step = self._orbits.known_step(state, code)
        while number >= step[1]:
            ring = self._orbits.ring_at(code, state)
            if ring is not None:
                return passed + copies_in_ring(ring[0], ring[1], number)
            number -= step[1]
            passed += 1
            state = step[0]
            step = self._orbits.known_step(state, code)
        return passed


def copies_in_ring(ring, index, number):
    """How many copies are passed ahead of the one with the marked place of this number, begun at an index of a ring."""
    states, sums = ring
    rounds, rest = divmod(number + sums[index], sums[-1])
    at = 0
    while sums[at + 1] <= rest:
        at += 1
    return rounds * len(states) + at - index
