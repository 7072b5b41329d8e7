"""Codes to which signs come, and from which signs go."""

from wordvault.checks import is_between, is_from
from wordvault.codes import (MOST_SIGNS, Code, check_code_counts, cost_of, is_least, least_code, least_of)
from wordvault.copies import frozen
from wordvault.errors import (BadCount, BadRank, BadSign, Counted, OtherSize, TooMany, VaultError)


def put_sign(code, counts, rank):
    """The code with a sign more, by the rule."""
    check_rank(code, counts, rank)
    check_more(code)
    return code_of(parted(list(code.words), parted_sign(counts), rank))


def check_rank(code, counts, rank):
    """Raises an error unless there are counts for the code, and a sign with this rank may be put in."""
    check_code_counts(code, counts)
    if not is_between(rank, 0, code.size):
        raise BadRank(rank)


def check_more(code):
    """Raises TooMany if the code has as many signs as it may have."""
    if code.size == MOST_SIGNS:
        raise TooMany("signs", MOST_SIGNS + 1, MOST_SIGNS)


def parted_sign(counts):
    """The sign that is parted by the rule: the least one of those with the least count."""
    told = list(counts)
    return told.index(min(told))


def parted(words, sign, rank):
    """The words with one more, of the new sign, by the parting of a sign; it gets this rank."""
    told = list(words)
    told[sign] = words[sign] + "0"
    told.insert(rank, words[sign] + "1")
    return told


def struck(words, sign):
    """The words without one; its brothers move up."""
    word = words[sign]
    size = len(word) - 1
    beside = word[:size] + ("1" if word[size] == "0" else "0")
    told = [other[:size] + other[size + 1:] if other.startswith(beside) else other for other in words]
    del told[sign]
    return told


def code_of(words):
    """The code with these words."""
    return Code([len(word) for word in words], words)


def strike_sign(code, sign):
    """The code without a sign."""
    if not is_between(sign, 0, code.size - 1):
        raise BadSign(sign)
    if code.size == 2:
        raise TooMany("signs", 1, MOST_SIGNS)
    return code_of(struck(code.words, sign))


def carried(code, counts, numbers):
    """The code behind a map: some signs are struck, others put in."""
    check_code_counts(code, counts)
    if len(numbers.numbers) != code.size:
        raise OtherSize(len(numbers.numbers), code.size)
    gone = [sign for sign, number in enumerate(numbers.numbers) if number is None]
    for sign in gone:
        if counts[sign] > 0:
            raise Counted(sign)
    if code.size - len(gone) < 2:
        raise TooMany("signs", code.size - len(gone), MOST_SIGNS)
    words, left = list(code.words), list(counts)
    for sign in gone[::-1]:
        words = struck(words, sign)
        del left[sign]
    for rank in numbers.fresh_numbers():
        words = parted(words, parted_sign(left), rank)
        left.insert(rank, 0)
    return code_of(words)


class Kept:
    """Some parted code is least: that of this sign."""

    def __init__(self, code, counts, rank, count, sign):
        self.code = frozen(code)
        self.counts = frozen(counts)
        self.rank = frozen(rank)
        self.count = frozen(count)
        self.sign = frozen(sign)


class Recoded:
    """No parted code is least, but the other code is."""

    def __init__(self, code, counts, rank, count, other):
        self.code = frozen(code)
        self.counts = frozen(counts)
        self.rank = frozen(rank)
        self.count = frozen(count)
        self.other = frozen(other)


def put_counted(code, counts, rank, count):
    """Kept or Recoded, for a new sign that comes already."""
    check_counted(code, counts, rank, count)
    signs = least_parted(code, counts, rank, count)
    if signs:
        return Kept(code, counts, rank, count, signs[0])
    return Recoded(code, counts, rank, count, least_code(with_count(counts, rank, count)))


def check_counted(code, counts, rank, count):
    """Raises an error unless a sign with this rank, and this count, may be put in."""
    check_rank(code, counts, rank)
    if not is_from(count, 0):
        raise BadCount(count)
    check_more(code)


def with_count(counts, rank, count):
    """The counts with one more."""
    told = list(counts)
    told.insert(rank, count)
    return told


def least_parted(code, counts, rank, count):
    """The signs with which the parted code is least."""
    wished = least_of(with_count(counts, rank, count)) - cost_of(code.lengths, counts)
    return [sign for sign, length in enumerate(code.lengths) if counts[sign] + count * (length + 1) == wished]


def kept_code(kept):
    """The parted code."""
    return code_of(parted(kept.code.words, kept.sign, kept.rank))


def is_kept(kept):
    """Whether the parted code of its sign is least."""
    if not is_counted(kept) or not is_between(kept.sign, 0, kept.code.size - 1):
        return False
    return kept.sign in least_parted(kept.code, kept.counts, kept.rank, kept.count)


def is_recoded(recoded):
    """Whether no parted code is least, but its other code is."""
    if not is_counted(recoded) or not isinstance(recoded.other, Code):
        return False
    if recoded.other.size != recoded.code.size + 1:
        return False
    if least_parted(recoded.code, recoded.counts, recoded.rank, recoded.count):
        return False
    return is_least(recoded.other, with_count(recoded.counts, recoded.rank, recoded.count))


def is_counted(told):
    """Whether a sign may be put in with these fields."""
    if not isinstance(told.code, Code) or not isinstance(told.counts, tuple):
        return False
    try:
        check_counted(told.code, told.counts, told.rank, told.count)
    except VaultError:
        return False
    return True
