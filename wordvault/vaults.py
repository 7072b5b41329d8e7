"""Vaults: rows of words, their code, and the sums of their bits."""

from wordvault.checks import is_between
from wordvault.coded import Coded
from wordvault.codes import least_code
from wordvault.dictionaries import Dictionary, are_letters, is_word
from wordvault.errors import BadLetters, BadPlace, BadWidth, BadWord, OtherSigns, TooMany
from wordvault.levels import same
from wordvault.listed import told_by_rules
from wordvault.sheets import Sheet, check_block
from wordvault.shelves import Shelf

MOST_WORDS = 2000


class Vault:
    """A row of words, told by a text of their numbers in a dictionary."""

    def __init__(self, dictionary, text, code, guard, block):
        check_signs(dictionary)
        if text.signs != dictionary.many or code.size != dictionary.many:
            raise OtherSigns()
        if guard.width != 1:
            raise BadWidth(guard.width)
        check_block(block)
        self.dictionary = dictionary
        self.text = text
        self.code = code
        self.guard = guard
        self.block = block
        self.size = text.size
        self.coded = Coded(code, text)
        # The sheet is made when a sum is asked for.
        self._sheet = None

    def word_at(self, place):
        """The word at a place."""
        return self.dictionary.word_of(self.text.sign_of(place))

    def words_from(self, place, many):
        """The tuple of so many words from a place on."""
        if not is_between(many, 0, MOST_WORDS):
            raise TooMany("words", many, MOST_WORDS)
        if not is_between(place, 0, self.size - many):
            raise BadPlace(place)
        return tuple([self.dictionary.word_of(number) for number in self.text.part(place, many)])

    def many_of(self, word):
        """How often a word stands there."""
        return self.text.tally()[self.dictionary.number_of(word)]

    def place_of(self, word, count):
        """Where a word stands for the time number count; None if it does not stand there so often."""
        return self.text.place_of(self.dictionary.number_of(word), count)

    def sum_at(self, index):
        """The sum of a block of bits."""
        if self._sheet is None:
            self._sheet = sheet_of(self)
        return self._sheet.sum_at(index)


def check_signs(dictionary):
    """Raises TooMany unless a dictionary has 2 to 2,000 words."""
    if not 2 <= dictionary.many <= MOST_WORDS:
        raise TooMany("signs", dictionary.many, MOST_WORDS)


def same_vaults(one, other):
    """Whether two vaults have the same words, codes and blocks."""
    return (one.dictionary == other.dictionary and one.code == other.code and one.guard == other.guard
            and one.block == other.block and same(one.text, other.text))


def sheet_of(vault):
    """The Sheet of the bits of a vault."""
    return Sheet(vault.guard, vault.coded.bits_text(), vault.block)


def vault_of(letters, words, guard, block):
    """The vault of a list of words."""
    if len(words) > MOST_WORDS:
        raise TooMany("words", len(words), MOST_WORDS)
    if not are_letters(letters):
        raise BadLetters(letters)
    for index, word in enumerate(words):
        if not is_word(word, letters):
            raise BadWord(index)
    dictionary = Dictionary(letters, list({word: True for word in words}))
    check_signs(dictionary)
    text = told_by_rules(dictionary.many, [dictionary.number_of(word) for word in words])
    return Vault(dictionary, text, least_code(text.tally()), guard, block)


def letters_text(vault, *, blanks=True):
    """The text of the letters of all words, by their places among the letters; a blank is the sign behind these."""
    letters = vault.dictionary.letters
    end = [len(letters)] if blanks else []
    words = [[letters.index(letter) for letter in word] + end if count else None
             for word, count in zip(vault.dictionary.words, vault.text.tally())]
    shelf = Shelf(len(letters) + 1)
    return shelf.text(shelf.words_in(vault.text.grammar, words))
