"""Searches in texts by rules."""

from wordvault.checks import is_between
from wordvault.errors import BadPlace
from wordvault.orbits import Orbits
from wordvault.phrases import check_phrases
from wordvault.searchers import gone_through


class Skips:
    """How many reads, windows and tells a search has, and where it tells."""

    def __init__(self, search, grammar):
        self._search = search
        self._orbits = Orbits(search, grammar)
        self._row = grammar.whole_row()
        state, amount = self._orbits.over_row(0, self._row)
        # The last window may have its end where the text has it: no sign stands behind it.
        self._last = grammar.size_of(grammar.top) - search.searcher.width
        last = search.last_window(state)
        self._told = amount // search.tell
        self.told = self._told + last // search.tell
        self.windows = (amount + last) % search.tell // search.window
        self.reads = (amount + last) % search.window

    def told_at(self, k):
        """The place of the tell with this number."""
        if not is_between(k, 0, self.told - 1):
            raise BadPlace(k)
        if k >= self._told:
            return self._last
        place, _, _ = self._orbits.sign_of_amount(0, self._row, (k + 1) * self._search.tell)
        return place - self._search.searcher.width


def skips(searcher, text):
    """The search in a text."""
    check_phrases([searcher, text])
    return Skips(Search(searcher, text.size), text.grammar)


class Search:
    """Reads signs one by one, and goes through the tree of a window when the sign behind it has come.

    Its states are pairs (state of the searcher, classes of the signs from the window on), by
    numbers. Amounts are sums: one for each read, window for each window, tell for each tell.
    """

    def __init__(self, searcher, size):
        self.searcher = searcher
        # There are at most 40 reads and as many tells for each window, and no more windows than signs.
        self.window = 40 * size + 1
        self.tell = self.window * self.window
        self.held = [(0, ())]
        self.numbers = {self.held[0]: 0}
        self.steps = {}

    def over_sign(self, number, sign):
        """The number of the state behind a sign, and the amount."""
        told = self.searcher.numbers[sign]
        if (number, told) not in self.steps:
            self.steps[(number, told)] = self.step(number, told)
        return self.steps[(number, told)]

    def step(self, number, told):
        """As over_sign, for a sign of a class."""
        state, classes = self.held[number]
        classes = classes + (told,)
        amount = 0
        if len(classes) > self.searcher.width:
            slide, state, amount = self.at_window(state, classes)
            classes = classes[slide:]
        held = (state, classes)
        if held not in self.numbers:
            self.numbers[held] = len(self.held)
            self.held.append(held)
        return self.numbers[held], amount

    def at_window(self, state, classes):
        """The slide, the state behind, and the amount of a window."""
        tells, reads, slide, behind = gone_through(self.searcher, state, classes)
        return slide, behind, tells * self.tell + self.window + reads

    def last_window(self, number):
        """The amount of the window at the end of the text, if there is one."""
        state, classes = self.held[number]
        if len(classes) < self.searcher.width:
            return 0
        return self.at_window(state, classes)[2]
