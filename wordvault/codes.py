"""Full codes, and what they cost."""

from wordvault.checks import is_between, is_from
from wordvault.errors import BadBits, BadLength, BadTally, Begins, NotFull, OtherSize, TooMany
from wordvault.trees import Tree

MOST_SIGNS = 2000
MOST_LENGTH = 1999


def check_counts(counts):
    """Raises an error unless there are counts for 2 to 2,000 signs."""
    if not 2 <= len(counts) <= MOST_SIGNS:
        raise TooMany("signs", len(counts), MOST_SIGNS)
    for index, count in enumerate(counts):
        if not is_from(count, 0):
            raise BadTally(index)


class Code:
    """A word of bits for each sign; tree has the beginnings of words."""

    def __init__(self, lengths, words=None):
        if not 2 <= len(lengths) <= MOST_SIGNS:
            raise TooMany("signs", len(lengths), MOST_SIGNS)
        for index, length in enumerate(lengths):
            if not is_between(length, 1, MOST_LENGTH):
                raise BadLength(index)
        self.longest = max(list(lengths))
        if sum([1 << self.longest - length for length in lengths]) != 1 << self.longest:
            raise NotFull()
        if words is not None:
            check_words(lengths, words)
        self.lengths = tuple(lengths)
        self.words = tuple(canonical_words(lengths) if words is None else words)
        self.size = len(self.lengths)
        self.tree = Tree(self.words)

    def __eq__(self, other):
        return isinstance(other, Code) and self.words == other.words


def check_words(lengths, words):
    """Raises an error unless the words have these lengths, and none begins another one."""
    for index, word in enumerate(words):
        if first_wrong_bit(word) is not None or len(word) != lengths[index]:
            raise BadBits(index)
    # Words that begin others stand ahead of them in order, with none between that they do not begin.
    order = sorted(list(words))
    if any([order[at + 1].startswith(order[at]) for at in range(len(order) - 1)]):
        for index, word in enumerate(words):
            for other in range(index + 1, len(words)):
                if words[other].startswith(word) or word.startswith(words[other]):
                    raise Begins(index, other)


def first_wrong_bit(value):
    """The index of the first sign of any value that is no bit, 0 for one that is no string; None if all are."""
    if not isinstance(value, str):
        return 0
    if not value.strip("01"):
        return None
    for index, bit in enumerate(value):
        if bit not in ("0", "1"):
            return index
    return None


def canonical_words(lengths):
    """The words by length, then by sign, each one the number behind the one ahead."""
    words = [""] * len(lengths)
    number, size = -1, 0
    for sign in sorted(list(range(len(lengths))), key=lambda place: lengths[place]):
        number = (number + 1) << (lengths[sign] - size)
        size = lengths[sign]
        words[sign] = f"{number:b}".zfill(size)
    return words


def check_code_counts(code, counts):
    """Raises an error unless there are counts for the signs of a code."""
    check_counts(counts)
    if len(counts) != code.size:
        raise OtherSize(len(counts), code.size)


def cost(code, counts):
    """The counts, each times the length of the word, added."""
    check_code_counts(code, counts)
    return cost_of(code.lengths, counts)


def is_least(code, counts):
    """Whether no full code costs less."""
    return cost(code, counts) == least_of(counts)


def least_cost(counts):
    """The cost of a least code."""
    check_counts(counts)
    return least_of(counts)


def least_code(counts):
    """A canonical code that is least."""
    check_counts(counts)
    joins, _ = joined_counts(counts)
    depths = [0] * (len(counts) + len(joins))
    for join in range(len(joins) - 1, -1, -1):
        for part in joins[join]:
            depths[part] = depths[len(counts) + join] + 1
    return Code(depths[:len(counts)])


def cost_of(lengths, counts):
    """The counts, each times a length, added."""
    return sum([count * length for count, length in zip(counts, lengths)])


def least_of(counts):
    """The cost of a least code for counts that were looked at."""
    _, total = joined_counts(counts)
    return total


def joined_counts(counts):
    """The pairs that are made one, again and again, and the sum of all counts that are made.

    Parts of pairs are signs, or the number of signs and the number of a pair added.
    What is made ascends, so that the two least counts stand ahead in one of two rows.
    """
    leaves = sorted([(count, sign) for sign, count in enumerate(counts)])
    made = []
    joins = []
    at_leaf = at_made = total = 0
    while len(joins) < len(counts) - 1:
        whole = 0
        parts = []
        for _ in range(2):
            if at_leaf < len(leaves) and (at_made == len(made) or leaves[at_leaf][0] <= made[at_made]):
                whole += leaves[at_leaf][0]
                parts.append(leaves[at_leaf][1])
                at_leaf += 1
            else:
                whole += made[at_made]
                parts.append(len(counts) + at_made)
                at_made += 1
        made.append(whole)
        joins.append(tuple(parts))
        total += whole
    return joins, total
