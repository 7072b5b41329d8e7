"""Plans: which codes are in use along a history."""

from wordvault.checks import is_between, is_list, is_tuple_of
from wordvault.codes import MOST_SIGNS, Code, check_counts, cost_of, least_code, least_of
from wordvault.copies import frozen
from wordvault.errors import BadHistory, BadPlace, TooMany, VaultError
from wordvault.groups import Groups
from wordvault.renumbered import code_of, parted, parted_sign

MOST_PAIRS = 400


class CodePlan:
    """The codes that are in use, and where no code can be in use all along."""

    def __init__(self, history, codes, stops):
        self.history = frozen(history)
        self.codes = frozen(codes)
        self.stops = frozen(stops)


def plan_codes(history):
    """The plan with as few codes as can be."""
    tallies = tallies_of(history)
    codes, stops = [], []
    start = 0
    while start < len(history):
        groups, end = farthest(history, tallies, start, len(history))
        codes.append((start, least_code(groups.sums)))
        if end < len(history):
            stops.append((start, end))
        start = end
    return CodePlan(history, codes, stops)


def tallies_of(history):
    """The tally behind each pair; raises an error if the history is none."""
    if not 1 <= len(history) <= MOST_PAIRS:
        raise TooMany("pairs", len(history), MOST_PAIRS)
    tallies = []
    for index, pair in enumerate(history):
        tally = tally_behind(pair, tallies)
        if tally is None:
            raise BadHistory(index)
        tallies.append(tally)
    return tallies


def tally_behind(pair, tallies):
    """The tally behind any value, the tallies ahead of it being known; None if it is no pair that may stand there."""
    if not is_tuple_of(pair, 2) or not isinstance(pair[0], str):
        return None
    if pair[0] == "tally" and are_counts(pair[1]):
        if not tallies or len(tallies[-1]) == len(pair[1]):
            return tuple(pair[1])
    if pair[0] == "put" and tallies:
        ahead = tallies[-1]
        if len(ahead) < MOST_SIGNS and is_between(pair[1], 0, len(ahead)):
            return ahead[:pair[1]] + (0,) + ahead[pair[1]:]
    return None


def are_counts(value):
    """Whether any value is a list of counts for 2 to 2,000 signs."""
    if not is_list(value):
        return False
    try:
        check_counts(value)
    except VaultError:
        return False
    return True


def farthest(history, tallies, start, most):
    """The Groups of one code that is in use from a pair on, and the first pair for which none is, or most."""
    groups = Groups(tallies[start])
    for index in range(start + 1, most):
        kind, told = history[index]
        if kind == "put":
            groups.put(tallies[index - 1], told)
        elif not groups.takes(tallies[index]):
            return groups, index
    return groups, most


def code_at(plan, index):
    """The code in use behind a pair."""
    if not is_between(index, 0, len(plan.history) - 1):
        raise BadPlace(index)
    tallies = tallies_of(plan.history)
    start, code = [pair for pair in plan.codes if pair[0] <= index][-1]
    words = list(code.words)
    for place in range(start + 1, index + 1):
        kind, told = plan.history[place]
        if kind == "put":
            words = parted(words, parted_sign(tallies[place - 1]), told)
    return code_of(words)


def is_plan(plan):
    """Whether its codes are least where they are in use, and its stops show that there are as few as can be."""
    if not isinstance(plan.history, tuple):
        return False
    tallies = tallies_of(plan.history)
    return are_codes(plan, tallies) and are_stops(plan, tallies)


def are_codes(plan, tallies):
    """Whether codes are such pairs, each code being least for each tally."""
    if not isinstance(plan.codes, tuple) or not plan.codes:
        return False
    least = 0
    for pair in plan.codes:
        if not is_tuple_of(pair, 2) or not is_between(pair[0], least, len(tallies) - 1):
            return False
        if not isinstance(pair[1], Code) or pair[1].size != len(tallies[pair[0]]):
            return False
        least = pair[0] + 1
    if plan.codes[0][0] != 0:
        return False
    ends = [pair[0] for pair in plan.codes[1:]] + [len(tallies)]
    return all([stays_least(plan, tallies, pair, end) for pair, end in zip(plan.codes, ends)])


def stays_least(plan, tallies, pair, end):
    """Whether a code that is in use from a pair on is least for each tally, ahead of the end."""
    start, code = pair
    lengths = list(code.lengths)
    for index in range(start, end):
        kind, told = plan.history[index]
        if kind == "put" and index > start:
            sign = parted_sign(tallies[index - 1])
            lengths[sign] += 1
            lengths.insert(told, lengths[sign])
        if cost_of(lengths, tallies[index]) != least_of(tallies[index]):
            return False
    return True


def are_stops(plan, tallies):
    """Whether stops are as many pairs as there are new codes, one behind the other, which no code gets over."""
    if not is_tuple_of(plan.stops, len(plan.codes) - 1):
        return False
    least = 0
    for pair in plan.stops:
        if not is_tuple_of(pair, 2) or not is_between(pair[0], least, len(tallies) - 1):
            return False
        if not is_between(pair[1], pair[0], len(tallies) - 1):
            return False
        least = pair[1]
    return all([farthest(plan.history, tallies, start, end + 1)[1] <= end for start, end in plan.stops])
