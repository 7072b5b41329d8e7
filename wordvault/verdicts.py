"""Searchers that are right for all texts, or wrong over a least row."""

from wordvault.checks import is_between, is_tuple_of
from wordvault.copies import frozen
from wordvault.errors import TooMany
from wordvault.phrases import Phrase
from wordvault.searchers import Searcher
from wordvault.turns import NOT_KNOWN, Turns, check_fit

MOST_ROWS = 2000


class Right:
    """A searcher tells over each row of signs what is wanted."""

    def __init__(self, searcher, phrase, wish, rows):
        self.searcher = frozen(searcher)
        self.phrase = frozen(phrase)
        self.wish = frozen(wish)
        self.rows = frozen(rows)


class Wrong:
    """Over this row of signs it does not."""

    def __init__(self, searcher, phrase, wish, row):
        self.searcher = frozen(searcher)
        self.phrase = frozen(phrase)
        self.wish = frozen(wish)
        self.row = frozen(row)


def verdict(searcher, phrase, wish="all"):
    """Right, or Wrong with a row of signs of least length."""
    check_fit(searcher, phrase, wish)
    windows = Windows(Turns(searcher, phrase, wish))
    windows.look_at_all()
    if windows.fault is None:
        return Right(searcher, phrase, wish, sorted(list(windows.came)))
    return Wrong(searcher, phrase, wish, windows.wrong_row(searcher, phrase))


class Windows:
    """The rows that come up, those at lesser places first; and the fault that takes the fewest signs.

    came tells of each row (row ahead, what was known behind the turn, slide), None of the first one.
    """

    def __init__(self, turns):
        self.turns = turns
        self.first = turns.first_row()
        self.came = {self.first: None}
        self.places = {self.first: 0}
        # Rows by the least place at which they come up, as far as is known.
        self.met = [[self.first]]
        self.fault = None
        self.fault_row = None
        self.signs = 0

    def look_at_all(self):
        """Looks at all turns, unless a fault takes fewer signs than any that may come."""
        place = 0
        while place < len(self.met):
            if self.fault is not None and self.signs <= place + self.turns.width:
                return
            for row in list(self.met[place]):
                if self.places[row] == place:
                    self.look_at(row, place)
            place += 1

    def look_at(self, row, place):
        """Looks at the turns of a row; a fault is noted, and nothing behind it is looked at."""
        for turn in self.turns.all_turns(row):
            if turn.fault is not None:
                signs = place + turn.fault.signs
                if self.fault is None or signs < self.signs:
                    self.fault, self.fault_row, self.signs = turn.fault, row, signs
            elif turn.row is not None:
                self.note(turn, row, place + turn.slide)

    def note(self, turn, row, place):
        """Notes that a turn of a row leads to another one, at this place."""
        behind = turn.row
        if behind in self.places and self.places[behind] <= place:
            return
        if len(self.places) == MOST_ROWS and behind not in self.places:
            raise TooMany("rows", MOST_ROWS + 1, MOST_ROWS)
        self.places[behind] = place
        self.came[behind] = (row, turn.known, turn.slide)
        while len(self.met) <= place:
            self.met.append([])
        self.met[place].append(behind)

    def wrong_row(self, searcher, phrase):
        """The signs that show the fault."""
        place = self.places[self.fault_row]
        signs = [0] * self.signs
        for at, spot in enumerate(phrase.spots):
            if self.fault.stands:
                signs[place + self.fault.offset + at] = spot[0][0]
            else:
                signs[place + at] = sign_outside(spot, phrase.signs)
        self.put_known(signs, place, self.fault.known, searcher)
        step = self.came[self.fault_row]
        while step is not None:
            row, known, slide = step
            place -= slide
            self.put_known(signs, place, known, searcher)
            step = self.came[row]
        return tuple(signs)

    def put_known(self, signs, place, known, searcher):
        """Puts a sign of each class that is known at a window."""
        for at, number in enumerate(known):
            if number != NOT_KNOWN:
                signs[place + at] = searcher.classes[number][0][0]


def sign_outside(spot, signs):
    """A sign that is not in a spot; the last one, if all are."""
    return 0 if spot[0][0] > 0 else min(spot[0][1] + 1, signs - 1)


def is_right(right):
    """Whether rows has the first row, and with each row those behind its turns, none of which goes wrong."""
    if not isinstance(right.searcher, Searcher) or not isinstance(right.phrase, Phrase):
        return False
    check_fit(right.searcher, right.phrase, right.wish)
    if not isinstance(right.rows, tuple):
        return False
    turns = Turns(right.searcher, right.phrase, right.wish)
    if not all([is_window_row(row, right.searcher, right.wish) for row in right.rows]):
        return False
    rows = {row: True for row in right.rows}
    if turns.first_row() not in rows:
        return False
    for row in rows:
        for turn in turns.all_turns(row):
            if turn.fault is not None or (turn.row is not None and turn.row not in rows):
                return False
    return True


def is_window_row(value, searcher, wish):
    """Whether any value is a triple (state, known, shut) of a searcher."""
    if not is_tuple_of(value, 3):
        return False
    state, known, shut = value
    if not is_between(state, 0, len(searcher.states) - 1) or not is_tuple_of(known, searcher.width + 1):
        return False
    if not all([is_between(number, -1, len(searcher.classes) - 1) for number in known]):
        return False
    return is_between(shut, 0, searcher.width - 1 if wish == "apart" else 0)
