"""Vaults for tests, and what deeds do to them, written down plainly."""

from tests.coders import random_code
from tests.helpers import random_text
from tests.test_guards import random_guard
from tests.test_renumbered import by_rule, struck_words
from wordvault.dictionaries import Dictionary
from wordvault.guards import Guard
from wordvault.texts import Text
from wordvault.vaults import Vault

PARITY = Guard(2, [[1]], [[1]], [0], [0])
GREAT = 10 ** 30


def random_word(rng, letters, most=3):
    return "".join(rng.choice(letters) for _ in range(rng.randint(0, most)))


def random_dictionary(rng, least=2, most=6, letters="ab"):
    """Any dictionary of a few words."""
    words = set()
    wished = rng.randint(least, most)
    while len(words) < wished:
        words.add(random_word(rng, letters))
    told = list(words)
    rng.shuffle(told)
    return Dictionary(letters, told)


def random_vault(rng, dictionary=None, most=60):
    """Any small vault, and its words."""
    dictionary = dictionary or random_dictionary(rng)
    text, row = random_text(rng, dictionary.many, rng.randint(1, 6), most)
    vault = Vault(dictionary, text, random_code(rng, dictionary.many), random_guard(rng, width=1), rng.choice([1, 2, 3, 7, GREAT]))
    return vault, [dictionary.words[number] for number in row]


def great_vault(dictionary, rules, root, code, guard=PARITY, block=7):
    """A vault whose rules have words in the place of numbers; names of rules stand in lists."""
    told = {}
    for name, row in rules.items():
        told[name] = [(part[0] if isinstance(part, list) else dictionary.number_of(part), count) for part, count in row]
    return Vault(dictionary, Text(dictionary.many, told, root), code, guard, block)


def ordered(dictionary, words):
    """Words in the order of a dictionary's letters."""
    return sorted(words, key=lambda word: [dictionary.letters.index(letter) for letter in word])


class Hoard:
    """The words, the dictionary's words and the code's words of a vault, as plain lists."""

    def __init__(self, vault, row):
        self.letters = vault.dictionary
        self.row = list(row)
        self.words = list(vault.dictionary.words)
        self.bits = list(vault.code.words)

    def counts(self):
        return [self.row.count(word) for word in self.words]

    def put(self, word):
        words = ordered(self.letters, self.words + [word])
        rank = words.index(word)
        self.bits = list(by_rule(self.bits, self.counts(), rank))
        self.words = words

    def strike(self, word):
        self.bits = list(struck_words(self.bits, self.words.index(word)))
        self.words.remove(word)

    def do(self, deed):
        """Does a deed that can be done."""
        kind = deed[0]
        if kind == "behind":
            self.row = self.row + list(deed[1])
        elif kind == "ahead":
            self.row = list(deed[1]) + self.row
        elif kind == "amid":
            self.row = self.row[:deed[1]] + list(deed[2]) + self.row[deed[1]:]
        elif kind == "take":
            self.row = self.row[:deed[1]] + self.row[deed[1] + deed[2]:]
        elif kind == "replace":
            self.row = [told for word in self.row for told in (deed[2] if word == deed[1] else [word])]
        elif kind == "put":
            self.put(deed[1])
        elif kind == "strike":
            self.strike(deed[1])

    def can(self, deed):
        """Whether a deed can be done."""
        kind = deed[0]
        if kind in ("behind", "ahead"):
            return all(word in self.words for word in deed[1])
        if kind == "amid":
            return 0 <= deed[1] <= len(self.row) and all(word in self.words for word in deed[2])
        if kind == "take":
            return 0 <= deed[1] <= len(self.row) and 0 <= deed[2] <= len(self.row) - deed[1]
        if kind == "replace":
            return deed[1] in self.words and all(word in self.words for word in deed[2])
        if kind == "put":
            return deed[1] not in self.words
        if kind == "strike":
            return deed[1] in self.words and deed[1] not in self.row and len(self.words) > 2
        return kind == "recode"


def words_of(vault):
    """All words of a small vault."""
    return list(vault.words_from(0, vault.size))
