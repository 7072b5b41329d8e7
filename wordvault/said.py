"""Phrases of words."""

from wordvault.checks import is_tuple_of
from wordvault.dictionaries import is_word
from wordvault.errors import BadSaid, TooMany
from wordvault.patterns import Pattern
from wordvault.phrases import MOST_SPOTS, Phrase


def said(dictionary, parts):
    """The phrase over the numbers of a dictionary's words."""
    if not 1 <= len(parts) <= MOST_SPOTS:
        raise TooMany("spots", len(parts), MOST_SPOTS)
    spots = []
    for index, part in enumerate(parts):
        spot = spot_of(dictionary, part)
        if not spot:
            raise BadSaid(index)
        spots.append(spot)
    return Phrase(dictionary.many, spots)


def spot_of(dictionary, part):
    """The ranges of the numbers that any value lets: none if it is no part."""
    if is_said(part, 1, "any"):
        return [(0, dictionary.many - 1)] if dictionary.many else []
    if is_said(part, 2, "word"):
        if not dictionary.has_word(part[1]):
            return []
        number = dictionary.number_of(part[1])
        return [(number, number)]
    if is_said(part, 2, "begins"):
        told = dictionary.range_of(part[1]) if is_word(part[1], dictionary.letters) else None
        return [] if told is None else [told]
    if is_said(part, 2, "fits"):
        pattern = part[1]
        if isinstance(pattern, Pattern) and pattern.letters == dictionary.letters:
            return pattern.ranges_in(dictionary)
    return []


def is_said(part, size, name):
    """Whether any value is a tuple of so many elements that begins with this name."""
    return is_tuple_of(part, size) and isinstance(part[0], str) and part[0] == name
