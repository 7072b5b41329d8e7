"""Deeds: vaults out of vaults."""

from wordvault.checks import is_between, is_tuple_of
from wordvault.codes import least_code
from wordvault.edits import joined, mapped, put_into, taken_out
from wordvault.errors import BadPlace, TooMany, UsedWord
from wordvault.renumbered import carried, put_sign, strike_sign
from wordvault.shelves import Shelf, runs_of
from wordvault.vaults import MOST_WORDS, Vault

MOST_SAID = 20


def with_text(vault, text):
    """The vault with another text."""
    return Vault(vault.dictionary, text, vault.code, vault.guard, vault.block)


def numbers_of(dictionary, words, most):
    """The numbers of a list of at most so many words."""
    if len(words) > most:
        raise TooMany("words", len(words), most)
    return [dictionary.number_of(word) for word in words]


def text_said(vault, words):
    """The text of a list of words of the dictionary."""
    numbers = numbers_of(vault.dictionary, words, MOST_WORDS)
    shelf = Shelf(vault.text.signs)
    return shelf.text(shelf.laid(runs_of(numbers)))


def said_behind(vault, words):
    """The vault with these words behind all."""
    return with_text(vault, joined(vault.text, text_said(vault, words)))


def said_ahead(vault, words):
    """The vault with these words ahead of all."""
    return put_amid(vault, 0, words)


def put_amid(vault, place, words):
    """The vault with these words ahead of a place."""
    if not is_between(place, 0, vault.size):
        raise BadPlace(place)
    return with_text(vault, put_into(vault.text, place, text_said(vault, words)))


def taken_from(vault, first, many):
    """The vault without so many words."""
    return with_text(vault, taken_out(vault.text, first, many))


def replaced(vault, word, words):
    """The vault with these words in each place of a word."""
    number = vault.dictionary.number_of(word)
    numbers = numbers_of(vault.dictionary, words, MOST_SAID)
    shelf = Shelf(vault.text.signs)
    codes = list(range(vault.text.signs))
    codes[number] = shelf.laid(runs_of(numbers))
    return with_text(vault, shelf.text(shelf.spelled_in(vault.text.grammar, codes)))


def word_put(vault, word):
    """The vault whose dictionary has a word more."""
    dictionary, moved = vault.dictionary.put_in(word)
    code = put_sign(vault.code, vault.text.tally(), dictionary.number_of(word))
    return Vault(dictionary, mapped(vault.text, moved.numbers, moved.many), code, vault.guard, vault.block)


def word_struck(vault, word):
    """The vault whose dictionary has a word less; it must stand nowhere."""
    number = vault.dictionary.number_of(word)
    many = vault.text.tally()[number]
    if many > 0:
        raise UsedWord(word, many)
    if vault.dictionary.many == 2:
        raise TooMany("signs", 1, MOST_WORDS)
    dictionary, moved = vault.dictionary.strike_out(word)
    text = mapped(vault.text, moved.numbers, moved.many)
    return Vault(dictionary, text, strike_sign(vault.code, number), vault.guard, vault.block)


def joined_vaults(one, other):
    """The vault of one with the words of the other behind."""
    dictionary, moved, other_moved = one.dictionary.join_with(other.dictionary)
    code = carried(one.code, one.text.tally(), moved)
    text = joined(mapped(one.text, moved.numbers, moved.many), mapped(other.text, other_moved.numbers, moved.many))
    return Vault(dictionary, text, code, one.guard, one.block)


def coded_anew(vault):
    """The vault with a least code."""
    return Vault(vault.dictionary, vault.text, least_code(vault.text.tally()), vault.guard, vault.block)


def kind_of(deed):
    """The kind of any value as a deed; None if it has not the form of one."""
    if not isinstance(deed, tuple) or not deed or not isinstance(deed[0], str):
        return None
    kind = deed[0]
    if kind in ("behind", "ahead"):
        fits = is_tuple_of(deed, 2) and are_said(deed[1])
    elif kind in ("replace", "amid"):
        fits = is_tuple_of(deed, 3) and are_said(deed[2])
    elif kind == "take":
        fits = is_tuple_of(deed, 3)
    elif kind in ("put", "strike"):
        fits = is_tuple_of(deed, 2)
    else:
        fits = kind == "recode" and is_tuple_of(deed, 1)
    return kind if fits else None


def are_said(value):
    """Whether any value is a tuple of at most 20 elements."""
    return isinstance(value, tuple) and len(value) <= MOST_SAID


def deed_done(vault, deed):
    """The vault behind a tuple that has the form of a deed."""
    kind = deed[0]
    if kind == "behind":
        return said_behind(vault, deed[1])
    if kind == "ahead":
        return said_ahead(vault, deed[1])
    if kind == "replace":
        return replaced(vault, deed[1], deed[2])
    if kind == "put":
        return word_put(vault, deed[1])
    if kind == "strike":
        return word_struck(vault, deed[1])
    if kind == "amid":
        return put_amid(vault, deed[1], deed[2])
    if kind == "take":
        return taken_from(vault, deed[1], deed[2])
    return coded_anew(vault)
