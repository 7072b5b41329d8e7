"""Dictionaries: words in order, and their numbers."""

from wordvault.checks import is_between
from wordvault.errors import (BadLetters, BadWord, NoNumber, NotWord, NoWord, OldWord, OtherLetters, TooMany)
from wordvault.maps import NumberMap

ALPHABET = "abcdefghijklmnopqrstuvwxyz"
LONGEST = 200

# A sign behind all letters of a key: so a key with it stands behind all keys that begin with the key.
BEHIND_ALL = "~"


def are_letters(value):
    """Whether it is a string of 2 to 26 different small letters."""
    if not isinstance(value, str) or not 2 <= len(value) <= 26:
        return False
    return all([letter in ALPHABET for letter in value]) and len(set(value)) == len(value)


def is_word(value, letters):
    """Whether it is a word over the letters."""
    return isinstance(value, str) and len(value) <= LONGEST and all([letter in letters for letter in value])


class Dictionary:
    """Different words over letters, in the order of the letters."""

    def __init__(self, letters, words):
        if not are_letters(letters):
            raise BadLetters(letters)
        if len(words) > 2000:
            raise TooMany("words", len(words), 2000)
        self.letters = letters
        self._plain = {letter: ALPHABET[place] for place, letter in enumerate(letters)}
        told = {}
        for index, word in enumerate(words):
            if not is_word(word, letters) or word in told:
                raise BadWord(index)
            told[word] = self._key_of(word)
        self.words = tuple(sorted(list(told), key=lambda word: told[word]))
        self.many = len(self.words)
        self._keys = [told[word] for word in self.words]
        self._numbers = {word: number for number, word in enumerate(self.words)}

    def __eq__(self, other):
        return isinstance(other, Dictionary) and self.letters == other.letters and self.words == other.words

    def _key_of(self, word):
        # The word in the letters of the alphabet: keys are ordered as strings are.
        return "".join([self._plain[letter] for letter in word])

    def _keys_ahead(self, key):
        low, high = 0, self.many
        while low < high:
            middle = (low + high) // 2
            if self._keys[middle] < key:
                low = middle + 1
            else:
                high = middle
        return low

    def has_word(self, word):
        """Whether any value is a word of it."""
        return isinstance(word, str) and word in self._numbers

    def number_of(self, word):
        """The number of a word of it."""
        if not self.has_word(word):
            raise NoWord(word)
        return self._numbers[word]

    def word_of(self, number):
        """The word with this number."""
        if not is_between(number, 0, self.many - 1):
            raise NoNumber(number)
        return self.words[number]

    def place_for(self, word):
        """How many of its words stand ahead of a word that it may have or not."""
        if not is_word(word, self.letters):
            raise NotWord(word)
        return self._keys_ahead(self._key_of(word))

    def range_of(self, beginning):
        """The first and the last number of the words that begin so, or None."""
        first = self.place_for(beginning)
        behind = self._keys_ahead(self._key_of(beginning) + BEHIND_ALL)
        if first == behind:
            return None
        return (first, behind - 1)

    def least_head(self, number):
        """The shortest beginning of this word that no other word has, or None."""
        word = self.word_of(number)
        size = 0
        if number > 0:
            size = max(size, shared_letters(word, self.words[number - 1]) + 1)
        if number + 1 < self.many:
            size = max(size, shared_letters(word, self.words[number + 1]) + 1)
        if size > len(word):
            return None
        return word[:size]

    def put_in(self, word):
        """The Dictionary with this word, too, and the map of the numbers."""
        place = self.place_for(word)
        if self.has_word(word):
            raise OldWord(word)
        more = Dictionary(self.letters, self.words + (word,))
        moved = [number if number < place else number + 1 for number in range(self.many)]
        return more, NumberMap(more.many, moved)

    def strike_out(self, word):
        """The Dictionary without this word, and the map of the numbers."""
        struck = self.number_of(word)
        less = Dictionary(self.letters, self.words[:struck] + self.words[struck + 1:])
        return less, self.map_to(less)

    def join_with(self, other):
        """The Dictionary of all words of both, and the maps of the numbers of both."""
        if self.letters != other.letters:
            raise OtherLetters()
        added = [word for word in other.words if not self.has_word(word)]
        whole = Dictionary(self.letters, self.words + tuple(added))
        return whole, self.map_to(whole), other.map_to(whole)

    def map_to(self, other):
        """The map that leads each word's number to its number in the other one."""
        if self.letters != other.letters:
            raise OtherLetters()
        return NumberMap(other.many, [other.number_of(word) if other.has_word(word) else None for word in self.words])


def shared_letters(one, other):
    """How many letters at the beginning are the same."""
    size = 0
    while size < len(one) and size < len(other) and one[size] == other[size]:
        size += 1
    return size
