"""What the deeds of a script make of each word: codes of one shelf, told from the last deed back to the first one."""

from wordvault.grammars import EMPTY
from wordvault.shelves import Shelf, runs_of


class Spoken:
    """The codes of what is made of the words, of the front and the back; and which deeds refuse them.

    Steps are pairs (deed, map of the numbers); words of deeds are told by numbers. refusals tell
    for each word the first deed that refuses a text with it, or None; refusal is that of front and back.
    """

    def __init__(self, steps, many):
        self.shelf = Shelf(many)
        self.codes = list(range(many))
        self.refusals = [None] * many
        self.refusal = None
        ahead, behind = [], []
        for index in range(len(steps) - 1, -1, -1):
            deed, moved = steps[index]
            if deed[0] == "behind":
                behind = self.said(deed[1]) + behind
            elif deed[0] == "ahead":
                ahead = ahead + self.said(deed[1])
            elif deed[0] == "replace":
                self.replace(deed[1], deed[2])
            else:
                self.move(moved, index)
        self.front = self.shelf.laid(runs_of(ahead))
        self.back = self.shelf.laid(runs_of(behind))

    def said(self, numbers):
        """The codes of words that are said by a deed."""
        for number in numbers:
            self.refusal = sooner(self.refusal, self.refusals[number])
        return [self.codes[number] for number in numbers]

    def replace(self, number, numbers):
        """A word becomes these words."""
        refusal = None
        for told in numbers:
            refusal = sooner(refusal, self.refusals[told])
        code = self.shelf.laid(runs_of([self.codes[told] for told in numbers]))
        self.codes[number] = code
        self.refusals[number] = refusal

    def move(self, moved, index):
        """Words get other numbers; those that get none are refused by this deed."""
        codes, refusals = [], []
        for number in moved.numbers:
            codes.append(EMPTY if number is None else self.codes[number])
            refusals.append(index if number is None else self.refusals[number])
        self.codes = codes
        self.refusals = refusals


def sooner(one, other):
    """The lesser one of two deeds that refuse; None is no deed."""
    if one is None or other is None:
        return other if one is None else one
    return min(one, other)
