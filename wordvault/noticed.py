"""Is each damage of a kind noticed, for all texts?"""

from wordvault.automata import row_to
from wordvault.checks import first_wrong_sign
from wordvault.copies import frozen
from wordvault.damages import Burst, Turned
from wordvault.layouts import Layout, first_wrong_turn, notice, turned_at
from wordvault.machines import Machine
from wordvault.standings import check_code_machine
from wordvault.tworeaders import RowsMet, TwoReaders, bits_and_places


class Noticed:
    """Each damage of the kind is noticed, or leaves a text what it is for the machine."""

    def __init__(self, layout, damage, machine, rows):
        self.layout = frozen(layout)
        self.damage = frozen(damage)
        self.machine = frozen(machine)
        self.rows = frozen(rows)


class Slipped:
    """A text, and places of its bits: if these are turned, it is not noticed."""

    def __init__(self, layout, damage, machine, signs, places):
        self.layout = frozen(layout)
        self.damage = frozen(damage)
        self.machine = frozen(machine)
        self.signs = frozen(signs)
        self.places = frozen(places)


def row_steps(layout, damage, row, machine=None):
    """The steps from a row: quadruples (bit, whether it is turned, whether it hurts, the row behind or None)."""
    check_code_machine(layout.code, machine)
    return TwoReaders(layout, damage, machine, True).steps(row)


def judge_damage(layout, damage, machine=None):
    """Noticed if no slip comes up, otherwise Slipped with as few bits as any."""
    check_code_machine(layout.code, machine)
    readers = TwoReaders(layout, damage, machine, True)
    met = RowsMet(readers)
    for number, row in enumerate(met.order):
        if readers.is_slip(row):
            bits, places = bits_and_places(row_to(met.came, number))
            return Slipped(layout, damage, machine, layout.signs_read(bits)[0], places)
    return Noticed(layout, damage, machine, sorted(met.order))


def is_kind(layout, damage):
    """Whether any two values are a layout and a kind of damage."""
    return isinstance(layout, Layout) and isinstance(damage, (Turned, Burst))


def are_fields(told):
    """Whether a result is told of a layout, a kind of damage and a machine or None; raises OtherSigns."""
    if not is_kind(told.layout, told.damage) or not (told.machine is None or isinstance(told.machine, Machine)):
        return False
    check_code_machine(told.layout.code, told.machine)
    return True


def is_noticed(told):
    """Whether rows has the first row, with each row those behind it, and no slip."""
    if not are_fields(told) or not isinstance(told.rows, tuple):
        return False
    readers = TwoReaders(told.layout, told.damage, told.machine, True)
    if not all([readers.is_row(row) for row in told.rows]):
        return False
    known = {row: True for row in told.rows}
    if readers.first not in known or any([readers.is_slip(row) for row in known]):
        return False
    for row in list(known):
        for _, _, _, behind in readers.steps(row):
            if behind is not None and behind not in known:
                return False
    return True


def is_slipped(told):
    """Whether there is such a damage."""
    if not are_fields(told) or not are_places_in(told.layout, told.signs, told.places):
        return False
    bits = told.layout.words_of(told.signs)
    damaged = turned_at(bits, told.places)
    if not told.damage.is_of(bits, told.places) or notice(told.layout, bits, damaged) is not None:
        return False
    if told.machine is None:
        return True
    return told.machine.has_text(told.signs) != told.machine.has_text(told.layout.signs_read(damaged)[0])


def are_places_in(layout, signs, places):
    """Whether any two values are a tuple of signs, and a tuple of places of their bits, ascending."""
    if not isinstance(signs, tuple) or not isinstance(places, tuple):
        return False
    if first_wrong_sign(signs, layout.code.size) is not None:
        return False
    return first_wrong_turn(layout.words_of(signs), places) is None
