"""What scripts lose: unlike texts of which they make the same."""

from wordvault.checks import first_wrong_sign
from wordvault.copies import frozen
from wordvault.errors import TooMany
from wordvault.levels import parted_in
from wordvault.scripts import Script, Side
from wordvault.shelves import Shelf

MOST_WORDS = 2000


class Loses:
    """Two unlike tuples of words of which a script makes the same."""

    def __init__(self, script, one, other):
        self.script = frozen(script)
        self.one = frozen(one)
        self.other = frozen(other)


class KeepsAll:
    """A script makes unlike texts of unlike texts."""

    def __init__(self, script, rests):
        self.script = frozen(script)
        self.rests = frozen(rests)


def images_of(script):
    """Pairs (word, tuple of the numbers that are made of it) of all words that are not refused."""
    if script.refused is None:
        return []
    grammar = script.spoken.shelf.grammar
    told = []
    for word, code, refusal in zip(script.dictionary.words, script.spoken.codes, script.spoken.refusals):
        if refusal is None:
            told.append((word, code))
    many = sum([grammar.size_of(code) for _, code in told])
    if many > MOST_WORDS:
        raise TooMany("words", many, MOST_WORDS)
    return [(word, tuple(grammar.signs_of(code, 0, grammar.size_of(code)))) for word, code in told]


def judge_losses(script):
    """Loses with as few words together as any, or KeepsAll."""
    images = images_of(script)
    for word, image in images:
        if not image:
            return Loses(script, (word,), ())
    found = Rests(images)
    if found.whole is not None:
        one, other = found.words_told()
        return Loses(script, one, other)
    return KeepsAll(script, sorted(found.order))


class Rests:
    """What is left of images, of images and rests; those that few words leave first.

    came tells of each rest (rest ahead, word that was put, whether the other side has the rest
    now); of one that two images leave, (None, shorter word, longer word). whole is told likewise,
    of words that leave nothing; it is None if there are none.
    """

    def __init__(self, images):
        self.order = []
        self.came = {}
        self.whole = None
        self.by_first = {}
        for word, image in images:
            self.by_first.setdefault(image[0], []).append((word, image))
        self.leave_by_two()
        at = 0
        while at < len(self.order) and self.whole is None:
            self.leave_behind(self.order[at])
            at += 1

    def leave_by_two(self):
        """The rests that two images leave."""
        for group in list(self.by_first.values()):
            for place, (word, image) in enumerate(group):
                for other, longer in group[:place] + group[place + 1:]:
                    if longer[:len(image)] == image and self.whole is None:
                        self.note(longer[len(image):], (None, word, other))

    def leave_behind(self, rest):
        """The rests that one more image leaves of a rest, or a rest of it."""
        for word, image in self.by_first.get(rest[0], []):
            if self.whole is None:
                if rest[:len(image)] == image:
                    self.note(rest[len(image):], (rest, word, False))
                elif image[:len(rest)] == rest:
                    self.note(image[len(rest):], (rest, word, True))

    def note(self, rest, told):
        """Notes a rest that is new, or that nothing is left."""
        if not rest:
            self.whole = told
        elif rest not in self.came:
            self.came[rest] = told
            self.order.append(rest)

    def words_told(self):
        """The words of the two sides that leave nothing."""
        steps = []
        told = self.whole
        while told[0] is not None:
            steps.append(told)
            told = self.came[told[0]]
        _, word, other = told
        shorter, longer = [word], [other]
        for _, more, is_turned in steps[::-1]:
            shorter.append(more)
            if is_turned:
                shorter, longer = longer, shorter
        return tuple(shorter), tuple(longer)


def is_keeps_all(told):
    """Whether no image is empty, no two are equal, and rests has all that are left, none of them empty."""
    if not isinstance(told.script, Script):
        return False
    images = images_of(told.script)
    if not are_rests(told.rests, told.script.target.many) or not all([len(image) > 0 for _, image in images]):
        return False
    found = Rests(images)
    known = {rest: True for rest in told.rests}
    if found.whole is not None or not all([rest in known for rest in found.order]):
        return False
    for rest in list(known):
        for _, image in found.by_first.get(rest[0], []):
            size = min(len(image), len(rest))
            left = rest[size:] if len(rest) > size else image[size:]
            if image[:size] == rest[:size] and left not in known:
                return False
    return True


def are_rests(value, signs):
    """Whether any value is a tuple of tuples of numbers, none of them empty."""
    if not isinstance(value, tuple) or not all([isinstance(rest, tuple) and len(rest) > 0 for rest in value]):
        return False
    return all([first_wrong_sign(rest, signs) is None for rest in value])


def is_loses(told):
    """Whether its two tuples are unlike, not refused, and the script makes the same of them."""
    if not isinstance(told.script, Script) or told.script.refused is None:
        return False
    if not isinstance(told.one, tuple) or not isinstance(told.other, tuple):
        return False
    if not all([told.script.takes_word(word) for word in told.one + told.other]) or told.one == told.other:
        return False
    shelf = Shelf(told.script.target.many)
    side = Side(shelf, told.script.spoken, list(range(shelf.signs)))
    codes = []
    for words in (told.one, told.other):
        numbers = [told.script.dictionary.number_of(word) for word in words]
        codes.append(shelf.in_row([side.images[number] for number in numbers]))
    return parted_in(shelf, codes[0], codes[1]) is None
