"""Phrases and searchers for tests."""

from wordvault.classes import classes_of
from wordvault.makers import made
from wordvault.phrases import Phrase
from wordvault.searchers import Searcher


def ranges_told(signs):
    """The ranges of ascending signs."""
    ranges = []
    for sign in signs:
        if ranges and ranges[-1][1] == sign - 1:
            ranges[-1] = (ranges[-1][0], sign)
        else:
            ranges.append((sign, sign))
    return ranges


def signs_told(ranges):
    """The signs of ranges, ascending."""
    return [sign for first, last in ranges for sign in range(first, last + 1)]


def random_phrase(rng, signs, width):
    """A phrase with any spots."""
    spots = []
    for _ in range(width):
        members = [sign for sign in range(signs) if rng.random() < 0.5] or [rng.randrange(signs)]
        spots.append(ranges_told(members))
    return Phrase(signs, spots)


def random_tree(rng, classes, width, states, depth):
    """Any tree."""
    pick = rng.random()
    if depth == 0 or pick < 0.3:
        return ("go", rng.randint(1, width + 1), rng.randrange(states))
    if pick < 0.45:
        return ("tell", random_tree(rng, classes, width, states, depth - 1))
    trees = tuple([random_tree(rng, classes, width, states, depth - 1) for _ in range(classes)])
    return ("read", rng.randint(0, width), trees)


def random_searcher(rng, phrase, states, depth=4):
    """Any searcher with the classes of a phrase."""
    classes = classes_of([phrase])
    trees = [random_tree(rng, len(classes), phrase.width, states, depth) for _ in range(states)]
    return Searcher(phrase.signs, classes, phrase.width, trees)


def goes_of(tree, path=()):
    """The paths of all goes and tells of a tree."""
    if tree[0] == "go":
        return [path]
    if tree[0] == "tell":
        return [path] + goes_of(tree[1], path + (1,))
    told = []
    for number, part in enumerate(tree[2]):
        told.extend(goes_of(part, path + (2, number)))
    return told


def replaced_at(tree, path, change):
    """The tree with another one at a path."""
    if not path:
        return change(tree)
    parts = list(tree)
    parts[path[0]] = replaced_at(parts[path[0]], path[1:], change)
    return tuple(parts)


def bent_searcher(rng, phrase, way, wish):
    """A searcher that was made, with one go or tell made another one."""
    searcher = made(phrase, way, wish)
    states = list(searcher.states)
    state = rng.randrange(len(states))

    def change(tree):
        if tree[0] == "tell":
            return tree[1] if rng.random() < 0.5 else ("tell", tree)
        if rng.random() < 0.3:
            return ("tell", tree)
        return ("go", rng.randint(1, phrase.width + 1), rng.choice([tree[2], rng.randrange(len(states))]))

    states[state] = replaced_at(states[state], rng.choice(goes_of(states[state])), change)
    return Searcher(phrase.signs, searcher.classes, phrase.width, states)
