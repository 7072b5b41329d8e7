"""One code for several tallies."""

from wordvault.checks import is_whole
from wordvault.codes import (Code, check_code_counts, check_counts, cost_of, is_least, least_code, least_of)
from wordvault.copies import frozen
from wordvault.errors import NotLeast, OtherSize, TooMany, VaultError

MOST_ROWS = 2000


class Common:
    """A code that is least for all rows of counts."""

    def __init__(self, rows, code):
        self.rows = frozen(rows)
        self.code = frozen(code)


class Apart:
    """The least cost for the sum of the rows is above the sum of their least costs."""

    def __init__(self, rows, whole, parts):
        self.rows = frozen(rows)
        self.whole = frozen(whole)
        self.parts = frozen(parts)


def common(rows):
    """Common if some code is least for all rows of counts, otherwise Apart."""
    check_rows(rows)
    whole = summed(rows)
    least = least_of(whole)
    parts = [least_of(row) for row in rows]
    if least == sum(parts):
        return Common(rows, least_code(whole))
    return Apart(rows, least, parts)


def check_rows(rows):
    """Raises an error unless there are rows of counts for as many signs."""
    if not 1 <= len(rows) <= MOST_ROWS:
        raise TooMany("rows", len(rows), MOST_ROWS)
    for row in rows:
        check_counts(row)
        if len(row) != len(rows[0]):
            raise OtherSize(len(row), len(rows[0]))


def summed(rows):
    """The sum of rows of counts."""
    return [sum([row[sign] for row in rows]) for sign in range(len(rows[0]))]


def are_rows(value):
    """Whether any value is a tuple of rows of counts for as many signs."""
    if not isinstance(value, tuple) or not all([isinstance(row, tuple) for row in value]):
        return False
    try:
        check_rows(value)
    except VaultError:
        return False
    return True


def is_common(told):
    """Whether its code is least for all rows."""
    if not are_rows(told.rows) or not isinstance(told.code, Code) or told.code.size != len(told.rows[0]):
        return False
    return all([is_least(told.code, row) for row in told.rows])


def is_apart(told):
    """Whether its numbers are the least costs, and the first one is above the sum of the others."""
    if not are_rows(told.rows) or not is_whole(told.whole) or not isinstance(told.parts, tuple):
        return False
    if not all([is_whole(part) for part in told.parts]) or told.whole != least_of(summed(told.rows)):
        return False
    return told.parts == tuple([least_of(row) for row in told.rows]) and told.whole > sum(told.parts)


def lasts(code, counts, step):
    """The greatest number of steps that can be added so that the code stays least; None if there is none."""
    check_code_counts(code, counts)
    check_counts(step)
    if len(step) != len(counts):
        raise OtherSize(len(step), len(counts))
    if not is_least(code, counts):
        raise NotLeast()
    if is_least(code, step):
        return None
    # By so many steps it costs more than a code that is least for a step, whatever that one costs for the counts.
    many = cost_of(code.lengths, counts) * code.size + 1
    while True:
        added = [count + many * more for count, more in zip(counts, step)]
        better = least_code(added)
        gain = cost_of(code.lengths, added) - cost_of(better.lengths, added)
        if gain == 0:
            return many
        # A better code is not worse from so many steps on: with fewer, this one costs as little.
        ahead = cost_of(better.lengths, counts) - cost_of(code.lengths, counts)
        many = ahead // (cost_of(code.lengths, step) - cost_of(better.lengths, step))
