"""Machines in texts by rules."""

from wordvault.checks import is_between
from wordvault.errors import BadPlace
from wordvault.machines import check_machines
from wordvault.orbits import Marks, Orbits


class Run:
    """A machine reads a text."""

    def __init__(self, machine, text):
        check_machines(machine, text)
        self.machine = machine
        self.text = text
        self._orbits = Orbits(Marks(machine), text.grammar)
        self.end, self.many = self._orbits.over_row(machine.start, text.grammar.whole_row())

    def _check_place(self, place):
        if not is_between(place, 0, self.text.size):
            raise BadPlace(place)

    def _behind(self, place):
        # The state behind the signs ahead of a place, and how many of them are marked.
        grammar = self.text.grammar
        return self._orbits.over_row(self.machine.start, grammar.pieces(grammar.top, 0, place))

    def state_at(self, place):
        """The state behind the signs ahead of a place."""
        self._check_place(place)
        return self._behind(place)[0]

    def number_ahead(self, place):
        """How many marked places are less."""
        self._check_place(place)
        return self._behind(place)[1]

    def first_from(self, place):
        """The least marked place that is not less, or None."""
        number = self.number_ahead(place)
        return self.place_at(number) if number < self.many else None

    def last_ahead(self, place):
        """The greatest marked place that is less, or None."""
        number = self.number_ahead(place)
        return self.place_at(number - 1) if number > 0 else None

    def place_at(self, number):
        """The marked place with so many ahead."""
        if not is_between(number, 0, self.many - 1):
            raise BadPlace(number)
        row = self.text.grammar.whole_row()
        return self._orbits.sign_of_amount(self.machine.start, row, number + 1)[0]
