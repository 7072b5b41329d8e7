"""The nodes of a code: beginnings of its words that are no whole words.

Nodes are numbered, the root is 0. Behind a bit stands a node, or a sign: sign s is told by -1 - s.
"""


class Tree:
    """Where the bits lead from each node of a full code."""

    def __init__(self, words):
        self.names = [""]
        self.zeros = [None]
        self.ones = [None]
        order = sorted(list(range(len(words))), key=lambda sign: words[sign])
        todo = [(0, 0, len(words))]
        while todo:
            node, first, behind = todo.pop()
            depth = len(self.names[node])
            middle = first_one(words, order, depth, first, behind)
            for bit, low, high in (("1", middle, behind), ("0", first, middle)):
                below = -1 - order[low]
                if high - low > 1:
                    below = len(self.names)
                    self.names.append(self.names[node] + bit)
                    self.zeros.append(None)
                    self.ones.append(None)
                    todo.append((below, low, high))
                if bit == "1":
                    self.ones[node] = below
                else:
                    self.zeros[node] = below
        self.numbers = {name: node for node, name in enumerate(self.names)}

    def has_node(self, value):
        """Whether any value is a node, told by its bits."""
        return isinstance(value, str) and value in self.numbers

    def behind(self, node, bit):
        """What stands behind a bit: a node, or a sign."""
        return self.ones[node] if bit == "1" else self.zeros[node]

    def read(self, node, bits):
        """The node behind some bits, and the list of the signs that are read in them."""
        signs = []
        for bit in bits:
            node = self.ones[node] if bit == "1" else self.zeros[node]
            if node < 0:
                signs.append(-1 - node)
                node = 0
        return node, signs

    def nodes_over(self, good, every):
        """For each node whether every sign whose word begins with it, or any such sign, is a good one."""
        told = [False] * len(self.names)
        # A node has a lesser number than those below it.
        for node in range(len(told) - 1, -1, -1):
            ends = (self.zeros[node], self.ones[node])
            below = [told[behind] if behind >= 0 else good[-1 - behind] for behind in ends]
            told[node] = all(below) if every else any(below)
        return told

    def read_named(self, name, bits):
        """As read, the nodes being told by their bits."""
        node, signs = self.read(self.numbers[name], bits)
        return self.names[node], signs


def first_one(words, order, depth, first, behind):
    """The first place of an order, from first on, at which words have a 1 at this depth."""
    while first < behind:
        middle = (first + behind) // 2
        if words[order[middle]][depth] == "1":
            behind = middle
        else:
            first = middle + 1
    return first
