"""Layouts and damages for tests, and what comes of them, written down plainly."""

import itertools

from tests.coders import random_code
from tests.helpers import random_machine
from tests.test_guards import random_guard
from wordvault.damages import Burst, Faded, Turned
from wordvault.guards import Guard, remainder
from wordvault.layouts import Layout


def random_layout(rng, signs=4):
    """A layout with a small guard."""
    code = random_code(rng, rng.randint(2, signs))
    guard = rng.choice([Guard(2, [[1]], [[1]], [0], [0]), remainder(2, 3), remainder(3, 3), remainder(1, 1),
                        random_guard(rng, rng.choice([2, 3, 4]), rng.randint(1, 2), 1), Guard(3, [[1]], [[0]], [0], [0])])
    return Layout(code, guard, rng.choice([None, None, 1, 2, 3, 5]))


def random_damage(rng):
    return rng.choice([Turned(1), Turned(2), Turned(3), Faded(1), Faded(2), Burst(1), Burst(2), Burst(3), Burst(4)])


def random_judged(rng):
    """A layout, a kind of damage, and a machine or None."""
    layout = random_layout(rng)
    machine = random_machine(rng, layout.code.size, rng.randint(1, 3)) if rng.random() < 0.5 else None
    return layout, random_damage(rng), machine


def texts_by_bits(code, most):
    """All texts of at most so many bits, fewer bits first: pairs (signs, bits)."""
    told, todo = [], [((), "")]
    while todo:
        signs, bits = todo.pop()
        told.append((signs, bits))
        for sign, word in enumerate(code.words):
            if len(bits) + len(word) <= most:
                todo.append((signs + (sign,), bits + word))
    return sorted(told, key=lambda pair: (len(pair[1]), pair))


def places_of_damage(damage, bits):
    """All tuples of places that may be turned."""
    for many in range(1, min(len(bits), damage.first_left) + 1):
        for places in itertools.combinations(range(len(bits)), many):
            if damage.is_of(bits, places):
                yield places


def node_behind(code, node, bit):
    """The node behind a bit, and the sign that is read, or None."""
    return ("", code.words.index(node + bit)) if node + bit in code.words else (node + bit, None)


def steps_told(layout, damage, row, machine, guarded=True):
    """The quadruples of the steps from a row."""
    place, right, wrong, difference, left, states = row
    guard, told = layout.guard, []
    for bit in "01":
        for turned in (False, True):
            if turned and (left == 0 or (isinstance(damage, Faded) and bit == "0")):
                continue
            read = ("1" if bit == "0" else "0") if turned else bit
            after, sign = node_behind(layout.code, right, bit)
            other, other_sign = node_behind(layout.code, wrong, read)
            hurts = sign is not None and (right != wrong or turned)
            less = left - 1 if turned or (isinstance(damage, Burst) and 0 < left < damage.size) else left
            behind, differ = place, difference
            if guarded:
                sway = 0 if not turned else (1 if bit == "0" else -1)
                differ = tuple((sum(guard.matrix[at][to] * difference[to] for to in range(guard.size))
                                + sway * guard.columns[at][0]) % guard.modulus for at in range(guard.size))
                behind = place + 1 if layout.block is not None else 0
                if behind == layout.block:
                    behind = 0
                at_end = layout.block is not None and behind == 0
                if any(differ) and (at_end or less == 0):
                    told.append((bit, turned, hurts, None))
                    continue
            after_states = tuple(state if one is None else machine.state_behind(state, [one])
                                 for state, one in zip(states, (sign, other_sign)))
            told.append((bit, turned, hurts, (behind, after, other, differ, less, after_states)))
    return tuple(told)


def first_told(layout, damage, machine):
    states = () if machine is None else (machine.start,) * 2
    return (0, "", "", (0,) * layout.guard.size, damage.first_left, states)


def rows_told(layout, damage, machine, guarded=True):
    """All rows that come up."""
    first = first_told(layout, damage, machine)
    seen, todo = {first}, [first]
    while todo:
        for _, _, _, behind in steps_told(layout, damage, todo.pop(), machine, guarded):
            if behind is not None and behind not in seen:
                seen.add(behind)
                todo.append(behind)
    return tuple(sorted(seen))
