"""The bits of a text in a code."""

from wordvault.checks import is_between
from wordvault.errors import BadPlace, OtherSigns, TooMany
from wordvault.shelves import Shelf

MOST_BITS = 2000


class Coded:
    """The words of a code for the signs of a text, one behind the other."""

    def __init__(self, code, text):
        if code.size != text.signs:
            raise OtherSigns()
        self.code = code
        self.text = text
        # How many bits each code of the grammar tells.
        self._widths = list(code.lengths)
        for row in text.grammar.rows:
            self._widths.append(self._bits_in(row))
        self.size = self._bits_in(text.grammar.whole_row())

    def _bits_in(self, row):
        return sum([self._widths[part] * count for part, count in row])

    def bit_at(self, place):
        """The bit at a place."""
        index, number = self.sign_at(place)
        return self.word_at(index)[number]

    def bits_part(self, place, many):
        """So many bits from a place on."""
        if not is_between(many, 0, MOST_BITS):
            raise TooMany("bits", many, MOST_BITS)
        if not is_between(place, 0, self.size - many):
            raise BadPlace(place)
        if many == 0:
            return ""
        index, number = self.sign_at(place)
        signs = self.text.grammar.signs_of(self.text.grammar.top, index, many + 1)
        told = []
        left = number + many
        for sign in signs:
            if left > 0:
                told.append(self.code.words[sign])
                left -= self.code.lengths[sign]
        return "".join(told)[number:number + many]

    def bits_text(self):
        """The text of these bits."""
        shelf = Shelf(2)
        return shelf.text(self.bits_in(shelf))

    def bits_in(self, shelf):
        """The code of these bits, laid in a shelf."""
        words = [[1 if bit == "1" else 0 for bit in word] if count else None
                 for word, count in zip(self.code.words, self.text.tally())]
        return shelf.words_in(self.text.grammar, words)

    def begin_of(self, index):
        """The place of the first bit of a sign; the size, for the size of the text."""
        if not is_between(index, 0, self.text.size):
            raise BadPlace(index)
        grammar = self.text.grammar
        return self._bits_in(grammar.pieces(grammar.top, 0, index))

    def sign_at(self, place):
        """The index of the sign whose word has this bit, and the number of the bit in it."""
        if not is_between(place, 0, self.size - 1):
            raise BadPlace(place)
        grammar = self.text.grammar
        code, index = grammar.top, 0
        while code >= grammar.signs:
            for part, count in grammar.rows[code - grammar.signs]:
                width = self._widths[part]
                passed = min(count, place // width)
                index += passed * grammar.size_of(part)
                place -= passed * width
                if passed < count:
                    code = part
                    break
        return index, place

    def word_at(self, index):
        """The word of the sign with this index."""
        return self.code.words[self.text.grammar.sign_at(index)]
