"""Finite machines over signs."""

from wordvault.automata import laid_out, merged, stretched
from wordvault.checks import first_wrong_sign, is_between, is_list, is_tuple_of
from wordvault.errors import (BadHow, BadMark, BadReading, BadRow, BadSign, BadSigns, BadStart, BadState, OtherSigns,
                              TooMany)

MOST_SIGNS = 2000
MOST_STATES = 2000


class Machine:
    """States, told by rows, a start and marks; table has the rows as stretch rows, kinds tell which are marked."""

    def __init__(self, signs, rows, start, marks):
        if not is_between(signs, 1, MOST_SIGNS):
            raise BadSigns(signs)
        if not 1 <= len(rows) <= MOST_STATES:
            raise TooMany("states", len(rows), MOST_STATES)
        for state, row in enumerate(rows):
            if not is_row(row, signs, len(rows)):
                raise BadRow(state)
        if not is_between(start, 0, len(rows) - 1):
            raise BadStart(start)
        least = 0
        for index, mark in enumerate(marks):
            if not is_between(mark, least, len(rows) - 1):
                raise BadMark(index)
            least = mark + 1
        self.signs = signs
        self.table = [stretch_row(away, moves, signs) for away, moves in rows]
        self.rows = tuple([told_row(row, signs) for row in self.table])
        self.start = start
        self.marks = tuple(marks)
        self.kinds = [False for _ in rows]
        for mark in marks:
            self.kinds[mark] = True

    def __eq__(self, other):
        return (isinstance(other, Machine) and self.signs == other.signs and self.rows == other.rows
                and self.start == other.start and self.marks == other.marks)

    def state_behind(self, state, row):
        """The state behind a row of signs, begun at a state."""
        self._check_state(state)
        self._check_row(row)
        for sign in row:
            state = target_of(self.table[state], sign)
        return state

    def has_text(self, row):
        """Whether a row of signs is a text."""
        return self.kinds[self.state_behind(self.start, row)]

    def marked_in(self, row):
        """The places that are marked in a row of signs."""
        self._check_row(row)
        state = self.start
        places = []
        for place, sign in enumerate(row):
            state = target_of(self.table[state], sign)
            if self.kinds[state]:
                places.append(place)
        return tuple(places)

    def begun_at(self, state):
        """The same machine with another start."""
        self._check_state(state)
        return Machine(self.signs, self.rows, state, self.marks)

    def _check_state(self, state):
        if not is_between(state, 0, len(self.table) - 1):
            raise BadState(state)

    def _check_row(self, row):
        wrong = first_wrong_sign(row, self.signs)
        if wrong is not None:
            raise BadSign(wrong)


def is_row(row, signs, states):
    """Whether it is a pair of a state and a list of moves."""
    if not is_tuple_of(row, 2) or not is_between(row[0], 0, states - 1) or not is_list(row[1]):
        return False
    least = 0
    for move in row[1]:
        if not is_tuple_of(move, 3):
            return False
        first, last, state = move
        if not is_between(first, least, signs - 1) or not is_between(last, first, signs - 1):
            return False
        if not is_between(state, 0, states - 1):
            return False
        least = last + 1
    return True


def stretch_row(away, moves, signs):
    """The stretch row of a row that is told by away and moves."""
    told = []
    least = 0
    for first, last, state in moves:
        if first > least:
            put_stretch(told, least, away)
        put_stretch(told, first, state)
        least = last + 1
    if least < signs:
        put_stretch(told, least, away)
    return tuple(told)


def put_stretch(told, first, state):
    """Puts a stretch behind others, unless it leads where the last one does."""
    if not told or told[-1][1] != state:
        told.append((first, state))


def told_row(row, signs):
    """The pair (away, moves) of a stretch row."""
    many = {}
    moves = []
    for at, (first, state) in enumerate(row):
        behind = row[at + 1][0] if at + 1 < len(row) else signs
        many[state] = many.get(state, 0) + behind - first
        moves.append((first, behind - 1, state))
    most = max(list(many.values()))
    away = min([state for state, signs_there in many.items() if signs_there == most])
    return away, tuple([move for move in moves if move[2] != away])


def target_of(row, sign):
    """The state to which a sign leads."""
    low, high = 0, len(row)
    while high - low > 1:
        middle = (low + high) // 2
        if row[middle][0] <= sign:
            low = middle
        else:
            high = middle
    return row[low][1]


def machine_of(signs, table, start, kinds):
    """The Machine of stretch rows."""
    marks = [state for state, kind in enumerate(kinds) if kind]
    return Machine(signs, [told_row(row, signs) for row in table], start, marks)


def check_machines(one, other):
    """Raises OtherSigns if two machines (or texts) have not as many signs."""
    if one.signs != other.signs:
        raise OtherSigns()


def inverted(machine):
    """The machine with just the other states marked."""
    return machine_of(machine.signs, machine.table, machine.start, [not kind for kind in machine.kinds])


def product_of(one, other, how):
    """The machine of the reached pairs of states."""
    check_machines(one, other)
    if not isinstance(how, str) or how not in ("both", "either", "first", "unlike"):
        raise BadHow(how)
    pairs, table = paired_table(one, other, "states", MOST_STATES)
    kinds = [is_marked(one.kinds[state], other.kinds[against], how) for state, against in pairs]
    return machine_of(one.signs, table, 0, kinds)


def is_marked(kind, other_kind, how):
    """Whether a pair of states is marked."""
    if how == "both":
        return kind and other_kind
    if how == "either":
        return kind or other_kind
    if how == "first":
        return kind and not other_kind
    return kind != other_kind


def paired_table(one, other, what, most):
    """The reached pairs of states, in the order of least rows, and their stretch rows; raises TooMany(what, ..)."""
    return joined_table([one.table, other.table], (one.start, other.start), what, most)


def joined_table(tables, start, what, most):
    """The tuples of states that are reached in some tables at once, in the order of least rows, and their rows."""
    numbers = {start: 0}
    order = [start]
    rows = []
    while len(rows) < len(order):
        row = []
        for first, states in rows_at_once(tables, order[len(rows)]):
            if states not in numbers:
                if len(order) == most:
                    raise TooMany(what, most + 1, most)
                numbers[states] = len(order)
                order.append(states)
            row.append((first, numbers[states]))
        rows.append(tuple(row))
    return order, rows


def rows_at_once(tables, states):
    """Pairs (first, states), ascending: where the signs lead in some tables at once."""
    told = [(first, (state,)) for first, state in tables[0][states[0]]]
    for table, state in list(zip(tables, states))[1:]:
        told = [(first, ahead + (target,)) for first, ahead, target in merged(told, table[state])]
    return told


class Steps:
    """Reads rows from all states of a machine at once; where a sign leads is found out once."""

    def __init__(self, machine):
        self.machine = machine
        self.columns = {}

    def states_behind(self, row):
        """For each state the state behind a row of signs."""
        states = list(range(len(self.machine.table)))
        for sign in row:
            if sign not in self.columns:
                self.columns[sign] = [target_of(told, sign) for told in self.machine.table]
            column = self.columns[sign]
            states = [column[state] for state in states]
        return states


def read_as(machine, readings):
    """The machine over new signs each of which is read as a row of signs."""
    if not 1 <= len(readings) <= MOST_SIGNS:
        raise TooMany("signs", len(readings), MOST_SIGNS)
    for index, reading in enumerate(readings):
        if not is_list(reading) or first_wrong_sign(reading, machine.signs) is not None:
            raise BadReading(index)
    steps = Steps(machine)
    behind = {}
    for reading in readings:
        if tuple(reading) not in behind:
            behind[tuple(reading)] = steps.states_behind(reading)
    columns = [behind[tuple(reading)] for reading in readings]
    table = [stretched([column[state] for column in columns]) for state in range(len(machine.table))]
    return machine_of(len(readings), table, machine.start, machine.kinds)


def sign_columns(signs, table):
    """Pairs (first, column), ascending: all signs from first on, up to the next one, lead as the column tells.

    A column has the target of each state.
    """
    firsts = sorted(list({first: True for row in table for first, _ in row}))
    laid = [laid_out(row, signs) for row in table]
    return [(first, tuple([row[first] for row in laid])) for first in firsts]
