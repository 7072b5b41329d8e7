"""Rules that are made out of rules, and the Text that is told by them."""

from wordvault.grammars import EMPTY, Grammar
from wordvault.names import name_at
from wordvault.texts import MOST_PAIRS, Text


class Shelf:
    """A growing list of rules of codes, for texts of so many signs or fewer.

    What is kept of a text by a cut is laid in one row, whatever rules it stood in: this
    takes few rules, and hardly any depth.
    """

    def __init__(self, signs):
        self.signs = signs
        self.rows = []
        self.sizes = []
        self.grammar = Grammar(signs, self.rows, self.sizes, EMPTY)

    def laid_in(self, grammar):
        """The code of the text of a Grammar whose rules are laid in."""
        return self.spelled_in(grammar, list(range(grammar.signs)))

    def spelled_in(self, grammar, codes):
        """The code of the text of a Grammar with a code in the place of each of its signs."""
        return EMPTY if grammar.top == EMPTY else self.rules_in(grammar.rows, codes)[grammar.top]

    def rules_in(self, rows, codes):
        """The codes of rules, which are laid in, behind those in the place of signs, which are told."""
        told = list(codes)
        for row in rows:
            told.append(self.coded([(told[code], count) for code, count in row if told[code] != EMPTY]))
        return told

    def words_in(self, grammar, words):
        """The code of the text of a Grammar with a row of signs in the place of each sign: None where none comes."""
        return self.spelled_in(grammar, [EMPTY if word is None else self.laid(runs_of(word)) for word in words])

    def coded(self, row):
        """A code that tells these pairs."""
        if not row:
            return EMPTY
        if len(row) == 1 and row[0][1] == 1:
            return row[0][0]
        self.sizes.append(sum([self.grammar.size_of(code) * count for code, count in row]))
        self.rows.append(row)
        return self.signs + len(self.rows) - 1

    def laid(self, row):
        """A code that tells these pairs, however many."""
        while len(row) > MOST_PAIRS:
            row = [(self.coded(row[at:at + MOST_PAIRS]), 1) for at in range(0, len(row), MOST_PAIRS)]
        return self.coded(row)

    def in_row(self, codes):
        """A code that tells these codes, one behind the other."""
        return self.laid(runs_of(codes))

    def pieces(self, code, first, behind):
        """Pairs that tell the signs of a code from first on, ahead of behind."""
        return self.grammar.pieces(code, first, behind)

    def row_of(self, code):
        """The pairs of a code: new ones may be laid beside them."""
        return [] if code == EMPTY else list(self.grammar.row_of(code))

    def opened(self, code, first, behind):
        """As pieces; but the whole is told by its pairs, so that texts do not grow deeper each time."""
        row = self.pieces(code, first, behind)
        return self.row_of(code) if row == [(code, 1)] else row

    def text(self, code):
        """The Text that a code tells."""
        return text_of_rows(self.signs, self.signs, self.rows, code)


def runs_of(row):
    """The pairs (code, count) that tell a row of codes, one behind the other."""
    runs = []
    for code in row:
        if runs and runs[-1][0] == code:
            runs[-1] = (code, runs[-1][1] + 1)
        elif code != EMPTY:
            runs.append((code, 1))
    return runs


def text_of_rows(signs, shift, rows, code):
    """The Text of a code; codes from shift on are rules. Only rules at or below the code are told."""
    if code < shift:
        return Text(signs, {"A": [] if code == EMPTY else [(code, 1)]}, "A")
    below = {code: True}
    for rule in range(code - shift, -1, -1):
        if rule + shift in below:
            for part, _ in rows[rule]:
                below[part] = True
    names = {}
    for rule in range(len(rows)):
        if rule + shift in below:
            names[rule + shift] = name_at(len(names))
    rules = {}
    for told, name in names.items():
        rules[name] = [(names.get(part, part), count) for part, count in rows[told - shift]]
    return Text(signs, rules, names[code])
