"""Kinds of damage: which bits are turned together.

Along the bits a number is left. It tells whether a bit may still be turned.
"""

from wordvault.checks import is_between
from wordvault.errors import BadSize

MOST_SIZE = 64


def check_size(size):
    """Raises BadSize for any value that is no integer from 1 to 64."""
    if not is_between(size, 1, MOST_SIZE):
        raise BadSize(size)


class Damage:
    """What all kinds of damage are below."""


class Turned(Damage):
    """One bit is turned at least, and most at most."""

    def __init__(self, most):
        check_size(most)
        self.most = most
        self.first_left = most

    def is_of(self, bits, places):
        """Whether turning these places is such a damage."""
        return 1 <= len(places) <= self.most

    def may_turn(self, left, bit):
        """Whether a bit may be turned with so much left."""
        return left > 0

    def left_behind(self, left, is_turned):
        """What is left behind a bit."""
        return left - 1 if is_turned else left


class Faded(Turned):
    """One one at least becomes a zero, and most at most."""

    def __init__(self, most):
        check_size(most)
        self.most = most
        self.first_left = most

    def is_of(self, bits, places):
        """Whether turning these places is such a damage."""
        return 1 <= len(places) <= self.most and all([bits[place:place + 1] == "1" for place in places])

    def may_turn(self, left, bit):
        """Whether a bit may be turned with so much left."""
        return left > 0 and bit == "1"


class Burst(Damage):
    """One bit is turned at least; all that are lie within so many places."""

    def __init__(self, size):
        check_size(size)
        self.size = size
        self.first_left = size

    def is_of(self, bits, places):
        """Whether turning these places is such a damage."""
        return len(places) > 0 and places[-1] - places[0] < self.size

    def may_turn(self, left, bit):
        """Whether a bit may be turned with so much left."""
        return left > 0

    def left_behind(self, left, is_turned):
        """What is left behind a bit: once a bit was turned, it is less with each one."""
        return left - 1 if is_turned or 0 < left < self.size else left
