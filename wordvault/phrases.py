"""Phrases: rows of sets of signs."""

from wordvault.checks import first_wrong_sign, is_between, is_list
from wordvault.copies import frozen
from wordvault.errors import BadSign, BadSigns, BadSpot, OtherSigns, TooMany
from wordvault.maps import first_wrong_range

MOST_SIGNS = 2000
MOST_SPOTS = 10


class Phrase:
    """Rows of as many signs as there are spots; masks have, for each spot, a bit for each of its signs."""

    def __init__(self, signs, spots):
        check_size(signs, spots)
        for index, spot in enumerate(spots):
            if not are_ranges(spot, signs):
                raise BadSpot(index)
        self.signs = signs
        self.spots = frozen(spots)
        self.width = len(self.spots)
        self.masks = [mask_of(spot) for spot in self.spots]

    def __eq__(self, other):
        return isinstance(other, Phrase) and self.signs == other.signs and self.spots == other.spots

    def fits_row(self, row):
        """Whether each member of a list of integers lies in the spot at its place, and there are as many."""
        if len(row) != self.width:
            return False
        return all([is_between(sign, 0, self.signs - 1) and self.masks[place] >> sign & 1 == 1
                    for place, sign in enumerate(row)])

    def overlaps_at(self, other):
        """The offsets at which the other phrase may stand within or over the end of this one."""
        check_phrases([self, other])
        told = []
        for offset in range(self.width):
            behind = self.masks[offset:]
            if all([mask & against != 0 for mask, against in zip(behind, other.masks)]):
                told.append(offset)
        return tuple(told)


def plain_phrase(signs, row):
    """The phrase that just this row fits."""
    check_size(signs, row)
    wrong = first_wrong_sign(row, signs)
    if wrong is not None:
        raise BadSign(wrong)
    return Phrase(signs, [[(sign, sign)] for sign in row])


def check_size(signs, spots):
    """Raises BadSigns or TooMany unless a phrase may have so many signs and spots."""
    if not is_between(signs, 1, MOST_SIGNS):
        raise BadSigns(signs)
    if not 1 <= len(spots) <= MOST_SPOTS:
        raise TooMany("spots", len(spots), MOST_SPOTS)


def check_phrases(phrases):
    """Raises OtherSigns unless all phrases (or texts) have as many signs."""
    if any([phrase.signs != phrases[0].signs for phrase in phrases]):
        raise OtherSigns()


def are_ranges(value, signs):
    """Whether any value is the ranges of at least one sign."""
    return is_list(value) and len(value) > 0 and first_wrong_range(value, signs) is None


def mask_of(ranges):
    """An integer with a bit for each sign of the ranges."""
    return sum([(1 << last + 1) - (1 << first) for first, last in ranges])
