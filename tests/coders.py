"""Codes for tests, and bits read one by one."""

import functools

from wordvault.codes import Code


@functools.lru_cache(None)
def full_lengths(signs):
    """All rows of lengths of full codes for so many signs."""
    if signs == 2:
        return ((1, 1),)
    told = set()
    for ahead in full_lengths(signs - 1):
        # Each full code has two longest words side by side: one of them is put beside the other.
        for sign in range(signs - 1):
            for place in range(signs):
                lengths = list(ahead)
                lengths[sign] += 1
                lengths.insert(place, ahead[sign] + 1)
                told.add(tuple(lengths))
    return tuple(sorted(told))


def cost_told(lengths, counts):
    return sum(count * length for count, length in zip(counts, lengths))


def least_told(counts):
    """The least cost, held against all full codes."""
    return min(cost_told(lengths, counts) for lengths in full_lengths(len(counts)))


def random_words(rng, signs):
    """The words of any full code."""
    words = ["0", "1"]
    while len(words) < signs:
        word = words.pop(rng.randrange(len(words)))
        words.extend([word + "0", word + "1"])
    rng.shuffle(words)
    return words


def random_code(rng, signs):
    """Any full code."""
    words = random_words(rng, signs)
    return Code([len(word) for word in words], words)


def nodes_told(code):
    """All nodes, the root ahead."""
    return sorted({word[:size] for word in code.words for size in range(len(word))}, key=lambda node: (len(node), node))


def read_plainly(code, node, bits):
    """The signs that a reader reads, with the number of bits behind each one, and the node behind."""
    told = []
    for number, bit in enumerate(bits, 1):
        node += bit
        if node in code.words:
            told.append((code.words.index(node), number))
            node = ""
    return told, node


def comb(signs):
    """The code with the words 0, 10, 110, ..; the last two are of one length."""
    return Code(list(range(1, signs)) + [signs - 1])
