"""Texts out of texts."""

from wordvault.checks import is_between
from wordvault.errors import BadCount, BadMap, BadPlace, BadSigns, BadSize, OtherSigns
from wordvault.grammars import EMPTY
from wordvault.shelves import Shelf, text_of_rows
from wordvault.texts import MOST_COUNT, MOST_SIGNS


def check_signs(one, other):
    """Raises OtherSigns if two texts have unlike signs."""
    if one.signs != other.signs:
        raise OtherSigns()


def check_stretch(text, first, many):
    """Raises BadPlace or BadSize unless many signs from first on are signs of the text."""
    if not is_between(first, 0, text.size):
        raise BadPlace(first)
    if not is_between(many, 0, text.size - first):
        raise BadSize(many)


def cut_out(text, first, many):
    """So many signs from first on."""
    check_stretch(text, first, many)
    shelf = Shelf(text.signs)
    code = shelf.laid_in(text.grammar)
    return shelf.text(shelf.laid(shelf.pieces(code, first, first + many)))


def taken_out(text, first, many):
    """The text without these signs."""
    check_stretch(text, first, many)
    return with_amid(text, first, first + many, None)


def put_over(text, first, many, other):
    """The other text in the place of these signs."""
    check_signs(text, other)
    check_stretch(text, first, many)
    return with_amid(text, first, first + many, other)


def put_into(text, place, other):
    """The other text ahead of a place."""
    check_signs(text, other)
    if not is_between(place, 0, text.size):
        raise BadPlace(place)
    return with_amid(text, place, place, other)


def with_amid(text, first, behind, other):
    """What stands ahead of first, the other text, if there is one, and what stands from behind on."""
    shelf = Shelf(text.signs)
    code = shelf.laid_in(text.grammar)
    row = shelf.opened(code, 0, first)
    if other is not None:
        row.extend(shelf.row_of(shelf.laid_in(other.grammar)))
    row.extend(shelf.opened(code, behind, text.size))
    return shelf.text(shelf.laid(row))


def joined(one, other):
    """The other text behind the one."""
    check_signs(one, other)
    return with_amid(one, one.size, one.size, other)


def repeated(text, count):
    """The text so often."""
    if not is_between(count, 0, MOST_COUNT):
        raise BadCount(count)
    shelf = Shelf(text.signs)
    code = shelf.laid_in(text.grammar)
    if count == 0 or code == EMPTY:
        return shelf.text(EMPTY)
    return shelf.text(shelf.coded([(code, count)]))


def turned(text):
    """The text back to front."""
    grammar = text.grammar
    return text_of_rows(text.signs, grammar.signs, [row[::-1] for row in grammar.rows], grammar.top)


def mapped(text, numbers, signs):
    """The text with another sign in the place of each one, or none."""
    if not is_between(signs, 1, MOST_SIGNS):
        raise BadSigns(signs)
    for index, number in enumerate(numbers):
        if number is not None and not is_between(number, 0, signs - 1):
            raise BadMap(index)
    if len(numbers) != text.signs:
        raise BadMap(len(numbers))
    shelf = Shelf(signs)
    return shelf.text(shelf.spelled_in(text.grammar, [EMPTY if number is None else number for number in numbers]))
