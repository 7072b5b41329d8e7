"""Rules for a list of signs: what comes again is told once."""

from wordvault.checks import first_wrong_sign, is_between
from wordvault.errors import BadSign, BadSigns, TooMany
from wordvault.names import name_at
from wordvault.texts import MOST_PAIRS, MOST_SIGNS, MOST_TOLD, Text


def told_by_rules(signs, row):
    """The Text of a list of signs."""
    if not is_between(signs, 1, MOST_SIGNS):
        raise BadSigns(signs)
    if len(row) > MOST_TOLD:
        raise TooMany("signs", len(row), MOST_TOLD)
    wrong = first_wrong_sign(row, signs)
    if wrong is not None:
        raise BadSign(wrong)
    rules = {}
    items = runs_joined([(sign, 1) for sign in row])
    pair = most_often(items)
    while pair is not None:
        name = name_at(len(rules))
        rules[name] = list(pair)
        items = runs_joined(with_name(items, pair, name))
        pair = most_often(items)
    while len(items) > MOST_PAIRS:
        names = []
        for first in range(0, len(items), MOST_PAIRS):
            name = name_at(len(rules))
            rules[name] = items[first:first + MOST_PAIRS]
            names.append((name, 1))
        items = names
    root = name_at(len(rules))
    rules[root] = items
    return Text(signs, rules, root)


def runs_joined(items):
    """The items with neighbours of the same part as one."""
    told = []
    for part, count in items:
        if told and told[-1][0] == part:
            told[-1] = (part, told[-1][1] + count)
        else:
            told.append((part, count))
    return told


def most_often(items):
    """The pair of items that stands as neighbours most often, twice at least; of several the first one; or None."""
    times = {}
    for at in range(1, len(items)):
        pair = (items[at - 1], items[at])
        times[pair] = times.get(pair, 0) + 1
    best = None
    for pair, many in times.items():
        if many > 1 and (best is None or many > times[best]):
            best = pair
    return best


def with_name(items, pair, name):
    """The items with the name in all places of the pair.

    The parts of neighbours are unlike, so that two places of one pair never overlap.
    """
    told = []
    at = 0
    while at < len(items):
        if at + 1 < len(items) and (items[at], items[at + 1]) == pair:
            told.append((name, 1))
            at += 2
        else:
            told.append(items[at])
            at += 1
    return told
