"""Signs that phrases do not tell apart."""

from wordvault.maps import ranges_of
from wordvault.phrases import check_phrases


def classes_of(phrases):
    """The classes of the signs: two are in one class if each spot of each phrase has both or none."""
    check_phrases(phrases)
    masks = [mask for phrase in phrases for mask in phrase.masks]
    members = {}
    for sign in range(phrases[0].signs):
        members.setdefault(sum([(mask >> sign & 1) << place for place, mask in enumerate(masks)]), []).append(sign)
    return tuple([tuple(ranges_of(signs)) for signs in members.values()])


def class_numbers(classes, signs):
    """For each sign the number of its class."""
    numbers = [0] * signs
    for number, ranges in enumerate(classes):
        for first, last in ranges:
            numbers[first:last + 1] = [number] * (last + 1 - first)
    return numbers


def fits_of(classes, phrase):
    """For each class an integer with a bit for each spot that has its signs; no spot may have just some of them."""
    return [sum([(mask >> ranges[0][0] & 1) << spot for spot, mask in enumerate(phrase.masks)]) for ranges in classes]
