"""Where two vaults part."""

from wordvault.edits import mapped
from wordvault.errors import OtherGuard
from wordvault.levels import parted, parted_in
from wordvault.sheets import sums_text
from wordvault.shelves import Shelf
from wordvault.vaults import sheet_of


def parted_words(one, other):
    """The least place at which their words part, None if these are the same."""
    _, moved, other_moved = one.dictionary.join_with(other.dictionary)
    return parted(mapped(one.text, moved.numbers, moved.many), mapped(other.text, other_moved.numbers, moved.many))


def parted_bits(one, other):
    """The least place at which their bits part, None if these are the same."""
    shelf = Shelf(2)
    return parted_in(shelf, one.coded.bits_in(shelf), other.coded.bits_in(shelf))


def parted_sums(one, other):
    """The first block whose sums part, None if all are the same."""
    if one.guard.modulus != other.guard.modulus or one.guard.size != other.guard.size:
        raise OtherGuard()
    sums = sums_text(sheet_of(one))
    return parted(sums, sums_text(sheet_of(other)))
