"""Patterns of letters: which words fit, and how two patterns compare."""

from wordvault.automata import laid_out, least_table, least_unlike, row_to, stretched, walked
from wordvault.checks import is_between
from wordvault.dictionaries import LONGEST, are_letters
from wordvault.errors import BadLetters, BadMost, NotWord, OtherLetters
from wordvault.maps import ranges_of
from wordvault.shapes import Readings

LONGEST_READ = 100000


class Pattern:
    """A part over letters; its standings are numbered in the order of the least words that lead there."""

    def __init__(self, letters, shape):
        if not are_letters(letters):
            raise BadLetters(letters)
        self.letters = letters
        self.shape = shape
        self.moves, self.kinds = Readings(shape, letters).all_moves()
        self._columns = {letter: column for column, letter in enumerate(letters)}

    def __eq__(self, other):
        return isinstance(other, Pattern) and self.letters == other.letters and self.shape == other.shape

    def fits_word(self, word):
        """Whether a word fits."""
        if not isinstance(word, str) or len(word) > LONGEST_READ:
            raise NotWord(word)
        if not all([letter in self._columns for letter in word]):
            raise NotWord(word)
        return self._leads_to_fit(word)

    def _leads_to_fit(self, word):
        standing = 0
        for letter in word:
            standing = self.moves[standing][self._columns[letter]]
        return self.kinds[standing]

    def ranges_in(self, dictionary):
        """The ranges of the numbers of all words of a dictionary that fit."""
        if self.letters != dictionary.letters:
            raise OtherLetters()
        return ranges_of([number for number, word in enumerate(dictionary.words) if self._leads_to_fit(word)])

    def count_words(self, most):
        """How many words of at most so many letters fit."""
        if not is_between(most, 0, LONGEST):
            raise BadMost(most)
        moves, kinds = least_moves(self)
        fans = [fan_of(row) for row in moves]
        ways = {0: 1}
        total = 1 if kinds[0] else 0
        for _ in range(most):
            behind = {}
            for standing, many in ways.items():
                for target, times in fans[standing]:
                    behind[target] = behind.get(target, 0) + many * times
            ways = behind
            total += sum([many for standing, many in ways.items() if kinds[standing]])
        return total


def fan_of(row):
    """Pairs (standing, how many letters lead there)."""
    times = {}
    for target in row:
        times[target] = times.get(target, 0) + 1
    return list(times.items())


def table_of(pattern):
    """The stretch rows of its standings, the letters being the signs."""
    return [stretched(row) for row in pattern.moves]


def least_moves(pattern):
    """Where the letters lead in the machine with fewest states, which starts at 0; and whether words fit."""
    rows, kinds = least_table(table_of(pattern), pattern.kinds, 0)
    return [laid_out(row, len(pattern.letters)) for row in rows], kinds


def spelled(letters, row):
    """The word that a row of columns tells."""
    return "".join([letters[column] for column in row])


def least_fit(pattern):
    """The least word that fits, or None."""
    order, came = walked(table_of(pattern), 0)
    for standing in order:
        if pattern.kinds[standing]:
            return spelled(pattern.letters, row_to(came, standing))
    return None


def parted_at(one, other):
    """The least word that fits just one of two patterns, or None."""
    if one.letters != other.letters:
        raise OtherLetters()
    shift = len(one.moves)
    rows = [stretched(row) for row in one.moves]
    rows.extend([stretched([target + shift for target in row]) for row in other.moves])
    row = least_unlike(rows, one.kinds + other.kinds, 0, shift)
    if row is None:
        return None
    return spelled(one.letters, row)


def lacked_at(one, other):
    """The least word that fits the first pattern and not the second one, or None."""
    if one.letters != other.letters:
        raise OtherLetters()
    moves, kinds = least_moves(one)
    other_moves, other_kinds = least_moves(other)
    row = first_fit_alone(moves, kinds, other_moves, other_kinds)
    if row is None:
        return None
    return spelled(one.letters, row)


def is_for_good(moves, kinds, state, kind):
    """Whether in a least machine all words from this state on are of one kind."""
    return kinds[state] == kind and all([target == state for target in moves[state]])


def first_fit_alone(moves, kinds, other_moves, other_kinds):
    """The least row of columns that fits in the first machine alone, or None."""
    columns = unlike_columns(moves, other_moves)
    width = len(other_moves)
    if kinds[0] and not other_kinds[0]:
        return ()
    ends = [is_for_good(moves, kinds, state, False) for state in range(len(moves))]
    other_ends = [is_for_good(other_moves, other_kinds, state, True) for state in range(width)]
    came = {0: None}
    order = [0]
    at = 0
    while at < len(order):
        row, other_row = moves[order[at] // width], other_moves[order[at] % width]
        for column in columns:
            state, other_state = row[column], other_row[column]
            pair = state * width + other_state
            if pair not in came and not ends[state] and not other_ends[other_state]:
                came[pair] = (order[at], column)
                if kinds[state] and not other_kinds[other_state]:
                    return row_to(came, pair)
                order.append(pair)
        at += 1
    return None


def unlike_columns(moves, other_moves):
    """The columns that lead elsewhere than all columns ahead of them do, in one of two machines at least."""
    seen = {}
    columns = []
    for column in range(len(moves[0])):
        told = (tuple([row[column] for row in moves]), tuple([row[column] for row in other_moves]))
        if told not in seen:
            seen[told] = True
            columns.append(column)
    return columns
