"""Rules that are made out of rules, and the Text that is told by them."""

from wordvault.grammars import EMPTY, Grammar
from wordvault.names import name_at
from wordvault.texts import MOST_PAIRS, Text


class Shelf:
    """A growing list of rules of codes, for texts of so many signs or fewer.

    A cut goes down along one path. It makes two new rules at most at each depth: what
    stands whole is kept in a rule of its own if the row would be too long. As that rule
    does not go down the path, the depth grows by 1 at most with each cut.
    """

    def __init__(self, signs):
        self.signs = signs
        self.rows = []
        self.sizes = []
        self.grammar = Grammar(signs, self.rows, self.sizes, EMPTY)

    def laid_in(self, grammar):
        """The code of the text of a Grammar whose rules are laid in."""
        shift = self.signs + len(self.rows) - grammar.signs
        for row in grammar.rows:
            self.rows.append([(code if code < grammar.signs else code + shift, count) for code, count in row])
        self.sizes.extend(grammar.sizes)
        return grammar.top if grammar.top < grammar.signs else grammar.top + shift

    def coded(self, row):
        """A code that tells these pairs."""
        if not row:
            return EMPTY
        if len(row) == 1 and row[0][1] == 1:
            return row[0][0]
        self.sizes.append(sum([self.grammar.size_of(code) * count for code, count in row]))
        self.rows.append(row)
        return self.signs + len(self.rows) - 1

    def in_row(self, codes):
        """A code that tells these codes, one behind the other."""
        return self.coded([(code, 1) for code in codes if code != EMPTY])

    def ahead_of(self, code, place):
        """A code that tells the signs ahead of a place."""
        return self.nested(self.whole_rows(code, place, 1), 1)

    def behind(self, code, place):
        """A code that tells the signs from a place on."""
        return self.nested(self.whole_rows(code, self.grammar.size_of(code) - place, -1), -1)

    def whole_rows(self, code, many, way):
        """What stands whole in so many signs at the beginning (way 1) or the end (way -1): a row for each depth."""
        kept = []
        while many > 0:
            row = []
            for part, count in self.grammar.row_of(code)[::way]:
                size = self.grammar.size_of(part)
                passed = min(count, many // size)
                many -= passed * size
                if passed:
                    row.append((part, passed))
                if passed < count:
                    code = part
                    break
            kept.append(row[::way])
        return kept

    def nested(self, kept, way):
        """A code for rows of which each one has the next one behind it (way 1) or ahead of it (way -1)."""
        inner = EMPTY
        for row in kept[::-1]:
            if inner == EMPTY:
                inner = self.coded(row)
            else:
                whole = [(self.coded(row), 1)] if len(row) >= MOST_PAIRS else row
                inner = self.coded(whole + [(inner, 1)] if way == 1 else [(inner, 1)] + whole)
        return inner

    def text(self, code):
        """The Text that a code tells."""
        return text_of_rows(self.signs, self.signs, self.rows, code)


def text_of_rows(signs, shift, rows, code):
    """The Text of a code; codes from shift on are rules. Only rules at or below the code are told."""
    if code < shift:
        return Text(signs, {"A": [] if code == EMPTY else [(code, 1)]}, "A")
    below = {code: True}
    for rule in range(code - shift, -1, -1):
        if rule + shift in below:
            for part, _ in rows[rule]:
                below[part] = True
    names = {}
    for rule in range(len(rows)):
        if rule + shift in below:
            names[rule + shift] = name_at(len(names))
    rules = {}
    for told, name in names.items():
        rules[name] = [(names.get(part, part), count) for part, count in rows[told - shift]]
    return Text(signs, rules, names[code])
