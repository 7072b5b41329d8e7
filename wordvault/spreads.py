"""In how many ranges the words that fit a pattern can lie, over all dictionaries."""

from wordvault.automata import components
from wordvault.checks import is_between
from wordvault.errors import BadMany
from wordvault.patterns import is_for_good, least_moves

# What is put in the place of a letter: the word ends here.
ENDS_HERE = -1


def most_ranges(pattern):
    """The greatest number of ranges over all dictionaries; None if there is none."""
    moves, kinds = least_moves(pattern)
    rings = components(moves)
    members = [[] for _ in moves]
    for state, ring in enumerate(rings):
        members[ring].append(state)
    # For each state (kind of the first word, number of stretches of words of one kind).
    told = {}
    for ring, states in enumerate(members):
        for state in states:
            if is_for_good(moves, kinds, state, kinds[state]):
                told[state] = (kinds[state], 1)
            elif ring in [rings[target] for target in moves[state]]:
                if not turns_once(moves, kinds, rings, state, kinds[states[0]]):
                    return None
                told[state] = (kinds[state], 2)
            else:
                told[state] = laid_in_row([(kinds[state], 1)] + [told[target] for target in moves[state]])
    first, stretches = told[0]
    return (stretches + 1) // 2 if first else stretches // 2


def turns_once(moves, kinds, rings, state, kind):
    """Whether just one letter stays in the ring, all words ahead are of this kind, and all behind of the other one."""
    if kinds[state] != kind:
        return False
    inside = [column for column, target in enumerate(moves[state]) if rings[target] == rings[state]]
    if len(inside) != 1:
        return False
    for column, target in enumerate(moves[state]):
        wished = kind if column < inside[0] else not kind
        if column != inside[0] and not is_for_good(moves, kinds, target, wished):
            return False
    return True


def laid_in_row(parts):
    """The kind of the first word and the number of stretches, of rows of words that stand one behind the other."""
    first, stretches = parts[0]
    for kind, more in parts[1:]:
        last = first if stretches & 1 else not first
        stretches += more - 1 if last == kind else more
    return first, stretches


def spread_words(pattern, many):
    """Words in order of which the first, the third and so on fit, and no others; None if there are not so many."""
    if not is_between(many, 1, 20):
        raise BadMany(many)
    moves, kinds = least_moves(pattern)
    turns = Turns(moves, kinds, 2 * many - 1)
    turns.grow()
    if turns.most[1] < 2 * many - 1:
        return None
    return turns.words(pattern.letters)


class Turns:
    """How often words from a state on can turn from kind to kind, in order.

    A node is 2 * state, and 1 more if the first word is to fit. most tells of a node
    the greatest number of words, found so far, of which each is of another kind than
    the one ahead; ways tells how: triples (column, node, number of words).
    """

    def __init__(self, moves, kinds, wanted):
        self.moves = moves
        self.kinds = kinds
        self.wanted = wanted
        self.most = [0 for _ in range(2 * len(moves))]
        self.ways = {}
        self.ahead = [{} for _ in moves]
        for state, row in enumerate(moves):
            for target in row:
                self.ahead[target][state] = True

    def grow(self):
        """Takes longer words, letter by letter: so the words that are found are short."""
        for state, kind in enumerate(self.kinds):
            node = 2 * state + (1 if kind else 0)
            self.most[node] = 1
            self.ways[(node, 1)] = [(ENDS_HERE, node, 1)]
        changed = list(range(len(self.moves)))
        while changed and self.most[1] < self.wanted:
            looked_at = {before: True for state in changed for before in self.ahead[state]}
            found = [self.way_from(2 * state + first) for state in looked_at for first in (0, 1)]
            changed = []
            for node, many, way in found:
                if many > self.most[node]:
                    self.most[node] = many
                    self.ways[(node, many)] = way
                    changed.append(node // 2)

    def way_from(self, node):
        """The triple (node, number of words, way) by what is known of the states behind."""
        state, need = node // 2, node & 1
        way = []
        many = 0
        if self.kinds[state] == (need == 1):
            way.append((ENDS_HERE, node, 1))
            many = 1
            need = 1 - need
        for column, target in enumerate(self.moves[state]):
            more = self.most[2 * target + need]
            if more:
                way.append((column, 2 * target + need, more))
                many += more
                if more & 1:
                    need = 1 - need
            if many >= self.wanted:
                break
        return node, min(many, self.wanted), way

    def words(self, letters):
        """As many words as are wanted, from the start on, the first one fits."""
        words = []
        # Beginnings are pairs (number of the beginning without the last letter, letter).
        heads = [None]
        todo = [(1, self.most[1], self.wanted, 0)]
        while todo:
            node, many, wanted, head = todo.pop()
            tasks = []
            for column, behind, more in self.ways[(node, many)]:
                taken = min(more, wanted)
                wanted -= taken
                if taken and column == ENDS_HERE:
                    words.append(spelled_out(heads, head))
                elif taken:
                    heads.append((head, letters[column]))
                    tasks.append((behind, more, taken, len(heads) - 1))
            todo.extend(tasks[::-1])
        return words


def spelled_out(heads, head):
    """The beginning with this number."""
    letters = []
    while heads[head] is not None:
        head, letter = heads[head]
        letters.append(letter)
    return "".join(letters[::-1])
