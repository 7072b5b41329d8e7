"""Searchers: what they read decides how far they go."""

from wordvault.checks import first_wrong_sign, is_between, is_tuple_of
from wordvault.classes import class_numbers
from wordvault.copies import frozen
from wordvault.errors import (BadClasses, BadSign, BadSigns, BadTree, BadWidth, TooMany)
from wordvault.phrases import MOST_SIGNS, are_ranges, mask_of

MOST_CLASSES = 6
MOST_WIDTH = 8
MOST_STATES = 64
MOST_DEPTH = 40
MOST_NODES = 3000
MOST_READ = 5000


class Searcher:
    """Trees, one for each state; numbers tell the class of each sign."""

    def __init__(self, signs, classes, width, states):
        if not is_between(signs, 1, MOST_SIGNS):
            raise BadSigns(signs)
        wrong = first_wrong_class(classes, signs)
        if wrong is not None:
            raise BadClasses(wrong)
        if not is_between(width, 1, MOST_WIDTH):
            raise BadWidth(width)
        if not 1 <= len(states) <= MOST_STATES:
            raise TooMany("states", len(states), MOST_STATES)
        many = 0
        for state, tree in enumerate(states):
            nodes = nodes_in(tree, len(classes), width, len(states))
            if nodes is None:
                raise BadTree(state)
            many += nodes
        if many > MOST_NODES:
            raise TooMany("nodes", many, MOST_NODES)
        self.signs = signs
        self.classes = frozen(classes)
        self.width = width
        self.states = frozen(states)
        self.numbers = class_numbers(self.classes, signs)

    def __eq__(self, other):
        return (isinstance(other, Searcher) and self.signs == other.signs and self.classes == other.classes
                and self.width == other.width and self.states == other.states)


def first_wrong_class(classes, signs):
    """The index of the first class that is none, their number if they do not have all signs; None if all is well."""
    seen = 0
    least = -1
    for index, ranges in enumerate(classes):
        if index == MOST_CLASSES or not are_ranges(ranges, signs):
            return index
        mask = mask_of(ranges)
        if mask & seen or ranges[0][0] < least:
            return index
        seen |= mask
        least = ranges[0][0]
    return None if seen == (1 << signs) - 1 else len(classes)


def nodes_in(tree, classes, width, states):
    """How many trees any value has in it, itself included; None if it is no tree."""
    todo = [(tree, 1)]
    many = 0
    while todo:
        value, depth = todo.pop()
        many += 1
        inner = trees_within(value, classes, width, states)
        if inner is None or depth > MOST_DEPTH:
            return None
        todo.extend([(part, depth + 1) for part in inner])
    return many


def trees_within(value, classes, width, states):
    """The trees that stand straight in a tree, themselves not looked at; None if it cannot be one."""
    if is_tuple_of(value, 2) and is_kind(value, "tell"):
        return value[1:]
    if not is_tuple_of(value, 3):
        return None
    if is_kind(value, "go"):
        return () if is_between(value[1], 1, width + 1) and is_between(value[2], 0, states - 1) else None
    if is_kind(value, "read") and is_between(value[1], 0, width) and is_tuple_of(value[2], classes):
        return value[2]
    return None


def is_kind(tree, kind):
    """Whether a tuple begins with the name of this kind of tree."""
    return isinstance(tree[0], str) and tree[0] == kind


class Trace:
    """What a search does: its windows, the places that it tells, and how often it reads."""

    def __init__(self, windows, told, reads):
        self.windows = frozen(windows)
        self.told = frozen(told)
        self.reads = reads


def trace(searcher, row):
    """The search in a list of signs."""
    wrong = first_wrong_sign(row, searcher.signs)
    if wrong is not None:
        raise BadSign(wrong)
    if len(row) > MOST_READ:
        raise TooMany("signs", len(row), MOST_READ)
    classes = [searcher.numbers[sign] for sign in row]
    windows, told = [], []
    place, state, reads = 0, 0, 0
    while place + searcher.width <= len(row):
        windows.append((place, state))
        tells, more, slide, state = gone_through(searcher, state, classes[place:place + searcher.width + 1])
        told.extend([place] * tells)
        reads += more
        place += slide
    return Trace(windows, told, reads)


def gone_through(searcher, state, classes):
    """What is done at a window over signs of these classes: how often it tells and reads, the slide, the next state.

    If the text ends behind the window, the sign just behind it is missing; where it is to be
    read, the search ends: then a slide is told that leads beyond the end of the text.
    """
    tree = searcher.states[state]
    tells = reads = 0
    while tree[0] != "go":
        if tree[0] == "tell":
            tells += 1
            tree = tree[1]
        elif tree[1] == len(classes):
            return tells, reads, 1, state
        else:
            reads += 1
            tree = tree[2][classes[tree[1]]]
    return tells, reads, tree[1], tree[2]
