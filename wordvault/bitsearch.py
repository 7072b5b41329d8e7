"""Search in bits: the searcher of a machine, and whether others tell the same."""

from wordvault.automata import row_to
from wordvault.checks import first_wrong_sign, is_between, is_tuple_of
from wordvault.codes import Code, first_wrong_bit
from wordvault.copies import frozen
from wordvault.errors import OtherSigns, TooMany
from wordvault.machines import Machine, target_of
from wordvault.standings import BITS, check_code_machine, searcher_of, standing_behind, tells_behind
from wordvault.withrules import Allowed

MOST_ROWS = 2000


def bit_search(code, machine):
    """The searcher that tells just where a sign ends behind which the machine tells."""
    check_code_machine(code, machine)
    return searcher_of(Standings(code, machine))


class Standings:
    """The states of the searcher of a machine."""

    def __init__(self, code, machine):
        self.code = code
        self.machine = machine
        self.first = (machine.start, "")

    def state_behind(self, standing, bit):
        """The standing behind a bit."""
        return standing_behind(self.code, self.machine, standing, bit)[0]

    def is_marked(self, standing):
        """Whether the searcher tells there."""
        return standing[1] == "" and self.machine.kinds[standing[0]]


class BitsRight:
    """A searcher tells just where a machine does, over the bits of all texts that are allowed."""

    def __init__(self, code, machine, searcher, rule, rows):
        self.code = frozen(code)
        self.machine = frozen(machine)
        self.searcher = frozen(searcher)
        self.rule = frozen(rule)
        self.rows = frozen(rows)


class BitsWrong:
    """Behind some bits of an allowed text just one of a machine and a searcher tells."""

    def __init__(self, code, machine, searcher, rule, bits, text):
        self.code = frozen(code)
        self.machine = frozen(machine)
        self.searcher = frozen(searcher)
        self.rule = frozen(rule)
        self.bits = frozen(bits)
        self.text = frozen(text)


class Rows:
    """The rows of a code, a machine, a searcher and a rule: (state of the rule, of machine, node, of searcher)."""

    def __init__(self, code, machine, searcher, rule):
        check_code_machine(code, machine)
        if searcher.signs != 2:
            raise OtherSigns()
        check_code_machine(code, rule)
        self.code = code
        self.machine = machine
        self.searcher = searcher
        self.allowed = Allowed(code, rule)
        self.first = (None if rule is None else rule.start, machine.start, "", searcher.start)

    def is_alive(self, row):
        """Whether some signs lead from a row to a text that is allowed."""
        return self.allowed.is_alive(row[0], row[2])

    def behind(self, row):
        """For each bit that leads to a row that is alive: (bit, row, whether both tell alike)."""
        of_rule, state, node, at = row
        told = []
        for bit in BITS:
            standing, tells = tells_behind(self.code, self.machine, (state, node), bit)
            left = self.allowed.state_behind(of_rule, node, bit)
            found = target_of(self.searcher.table[at], 1 if bit == "1" else 0)
            row_behind = (left,) + standing + (found,)
            if self.is_alive(row_behind):
                told.append((bit, row_behind, tells == self.searcher.kinds[found]))
        return told

    def is_row(self, value):
        """Whether any value is a row of states and a node."""
        if not is_tuple_of(value, 4) or not self.allowed.is_state(value[0]):
            return False
        if not is_between(value[1], 0, len(self.machine.table) - 1) or not self.code.tree.has_node(value[2]):
            return False
        return is_between(value[3], 0, len(self.searcher.table) - 1)


def judge_bits(code, machine, searcher, rule=None):
    """BitsRight, or BitsWrong with as few bits as can be."""
    rows = Rows(code, machine, searcher, rule)
    came = {}
    order = []
    if rows.is_alive(rows.first):
        came[rows.first] = None
        order.append(rows.first)
    at = 0
    while at < len(order):
        for bit, behind, alike in rows.behind(order[at]):
            if not alike:
                bits = "".join(row_to(came, order[at])) + bit
                return BitsWrong(code, machine, searcher, rule, bits, rows.allowed.text_with(bits))
            if behind not in came:
                if len(order) == MOST_ROWS:
                    raise TooMany("rows", MOST_ROWS + 1, MOST_ROWS)
                came[behind] = (order[at], bit)
                order.append(behind)
        at += 1
    # Without a rule all first parts are None, which has no order, but is one and the same.
    return BitsRight(code, machine, searcher, rule, sorted(order))


def rows_told(told):
    """The Rows of a result; None if its fields are not as described."""
    if not isinstance(told.code, Code) or not isinstance(told.machine, Machine):
        return None
    if not isinstance(told.searcher, Machine) or not (told.rule is None or isinstance(told.rule, Machine)):
        return None
    return Rows(told.code, told.machine, told.searcher, told.rule)


def is_bits_right(told):
    """Whether rows has the first row, if it is alive, and with each row those behind it, where both tell alike."""
    rows = rows_told(told)
    if rows is None or not isinstance(told.rows, tuple):
        return False
    if not all([rows.is_row(row) for row in told.rows]):
        return False
    known = {row: True for row in told.rows}
    if rows.is_alive(rows.first) and rows.first not in known:
        return False
    for row in told.rows:
        if not all([alike and behind in known for _, behind, alike in rows.behind(row)]):
            return False
    return True


def is_bits_wrong(told):
    """Whether bits begin those of the text, which is allowed, and just one tells behind the last one."""
    rows = rows_told(told)
    if rows is None or first_wrong_bit(told.bits) is not None or not told.bits:
        return False
    if not isinstance(told.text, tuple) or first_wrong_sign(told.text, told.code.size) is not None:
        return False
    if told.rule is not None and not told.rule.has_text(told.text):
        return False
    if not "".join([told.code.words[sign] for sign in told.text]).startswith(told.bits):
        return False
    standing, tells = (told.machine.start, ""), False
    for bit in told.bits:
        standing, tells = tells_behind(told.code, told.machine, standing, bit)
    found = told.searcher.has_text([1 if bit == "1" else 0 for bit in told.bits])
    return tells != found
