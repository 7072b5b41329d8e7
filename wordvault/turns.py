"""What a searcher does at one window, whatever signs stand there.

What is known of a window is a tuple with the class of the sign at each place, 0 to the width, or -1.
"""

from wordvault.classes import fits_of
from wordvault.errors import BadWidth, OtherSigns, Unfit
from wordvault.finders import check_wish
from wordvault.phrases import mask_of

NOT_KNOWN = -1


def check_fit(searcher, phrase, wish):
    """Raises the error that is due unless the searcher can be looked at for this phrase and wish."""
    if searcher.signs != phrase.signs:
        raise OtherSigns()
    if searcher.width != phrase.width:
        raise BadWidth(phrase.width)
    masks = [mask_of(ranges) for ranges in searcher.classes]
    for spot, mask in enumerate(phrase.masks):
        if any([mask & of_class not in (0, of_class) for of_class in masks]):
            raise Unfit(spot)
    check_wish(wish)


class Fault:
    """A window at which a search goes wrong: so many signs from the turn's window on show it.

    If stands, the phrase is wanted at the offset and not told; otherwise what is told is not wanted.
    """

    def __init__(self, known, signs, offset, stands):
        self.known = known
        self.signs = signs
        self.offset = offset
        self.stands = stands


class Turn:
    """What is known when it is over, the row behind it (None: the text ends), the slide, and a Fault or None."""

    def __init__(self, known, row, slide, fault):
        self.known = known
        self.row = row
        self.slide = slide
        self.fault = fault


class Turns:
    """The turns of a searcher for a phrase."""

    def __init__(self, searcher, phrase, wish):
        self.states = searcher.states
        self.width = phrase.width
        self.classes = len(searcher.classes)
        self.apart = wish == "apart"
        self.fits = fits_of(searcher.classes, phrase)
        self.whole = [all([fit >> place & 1 for fit in self.fits]) for place in range(self.width)]

    def first_row(self):
        """The row at which each search begins."""
        return 0, (NOT_KNOWN,) * (self.width + 1), 0

    def must_stand(self, known):
        """Whether the phrase stands at the window, whatever is not known."""
        return all([self.whole[place] if known[place] == NOT_KNOWN else self.fits[known[place]] >> place & 1
                    for place in range(self.width)])

    def may_stand(self, known, offset):
        """Whether it can stand at a window so many places on."""
        return all([number == NOT_KNOWN or self.fits[number] >> place & 1
                    for place, number in enumerate(known[offset:offset + self.width])])

    def all_turns(self, row):
        """All turns of a row, as Turn objects.

        Triples in the list to do are (tree, known, whether it told).
        """
        state, ahead, shut = row
        turns = []
        todo = [(self.states[state], ahead, False)]
        while todo:
            tree, known, told = todo.pop()
            if tree[0] == "tell":
                if told or shut or not self.must_stand(known):
                    turns.append(Turn(known, None, 0, Fault(known, self.signs_needed(known), 0, False)))
                else:
                    todo.append((tree[1], known, True))
            elif tree[0] == "go":
                fault = self.fault_behind(known, told, shut, tree[1])
                turns.append(Turn(known, self.row_behind(known, told, shut, tree), tree[1], fault))
            elif known[tree[1]] != NOT_KNOWN:
                todo.append((tree[2][known[tree[1]]], known, told))
            else:
                if tree[1] == self.width:
                    turns.append(Turn(known, None, 0, self.fault_behind(known, told, shut, 1)))
                for number in range(self.classes):
                    more = known[:tree[1]] + (number,) + known[tree[1] + 1:]
                    todo.append((tree[2][number], more, told))
        return turns

    def signs_needed(self, known):
        """How many signs from the window on must be there for all that is known."""
        return self.width if known[self.width] == NOT_KNOWN else self.width + 1

    def fault_behind(self, known, told, shut, slide):
        """A Fault at the window, or at one that is passed by; None if there is none."""
        if not told and not shut and self.may_stand(known, 0):
            return Fault(known, self.signs_needed(known), 0, True)
        closed = self.shut_behind(told, shut)
        for offset in range(1, slide):
            if offset >= closed and self.may_stand(known, offset):
                return Fault(known, self.width + offset, offset, True)
        return None

    def shut_behind(self, told, shut):
        """How many windows, this one included, overlap the last place told, now that the turn is over."""
        return self.width if told and self.apart else shut

    def row_behind(self, known, told, shut, go):
        """The row to which a go leads."""
        _, slide, state = go
        closed = max(0, self.shut_behind(told, shut) - slide)
        return state, known[slide:] + (NOT_KNOWN,) * slide, closed
