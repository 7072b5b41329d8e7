"""Scripts: what deeds do to all texts."""

from wordvault.copies import frozen
from wordvault.deeds import deed_done, kind_of
from wordvault.dictionaries import is_word
from wordvault.errors import BadDeed, NoWord, OtherDictionary, OtherSigns, Refused, TooMany
from wordvault.grammars import EMPTY
from wordvault.levels import parted_in
from wordvault.shelves import Shelf
from wordvault.spoken import Spoken, sooner
from wordvault.vaults import MOST_WORDS, check_signs

MOST_DEEDS = 100


class Script:
    """Deeds one behind the other, for any text of a dictionary's numbers."""

    def __init__(self, dictionary, deeds):
        check_signs(dictionary)
        if len(deeds) > MOST_DEEDS:
            raise TooMany("deeds", len(deeds), MOST_DEEDS)
        steps = []
        target = dictionary
        for index, deed in enumerate(deeds):
            step, target = step_of(target, deed)
            if step is None:
                raise BadDeed(index)
            steps.append(step)
        self.dictionary = dictionary
        self.deeds = frozen(deeds)
        self.target = target
        self.spoken = Spoken(steps, target.many)
        self.refused = None
        self.front = None
        self.back = None
        if self.spoken.refusal is None:
            self.refused = tuple([word for word, refusal in zip(dictionary.words, self.spoken.refusals)
                                  if refusal is not None])
            self.front = self.spoken.shelf.text(self.spoken.front)
            self.back = self.spoken.shelf.text(self.spoken.back)

    def takes_word(self, word):
        """Whether any value is a word of the dictionary, and the text of this word is not refused."""
        if self.refused is None or not self.dictionary.has_word(word):
            return False
        return self.spoken.refusals[self.dictionary.number_of(word)] is None

    def image_of(self, word):
        """The text that is made of a word."""
        if not self.takes_word(word):
            raise NoWord(word)
        return self.spoken.shelf.text(self.spoken.codes[self.dictionary.number_of(word)])

    def made_of(self, text):
        """The text that is made of a text."""
        if text.signs != self.dictionary.many:
            raise OtherSigns()
        refusal = self.spoken.refusal
        for count, told in zip(text.tally(), self.spoken.refusals):
            if count > 0:
                refusal = sooner(refusal, told)
        if refusal is not None:
            raise Refused(refusal)
        shelf = Shelf(self.target.many)
        side = Side(shelf, self.spoken, list(range(self.target.many)))
        code = shelf.spelled_in(text.grammar, side.images)
        return shelf.text(shelf.laid(shelf.row_of(side.front) + shelf.row_of(code) + shelf.row_of(side.back)))


def step_of(target, deed):
    """The step that any value tells, over the dictionary that is the target so far, and the next target.

    A step is a pair (deed with numbers, map of the numbers or None); None for a value that is no such deed.
    """
    kind = kind_of(deed)
    if kind in ("behind", "ahead"):
        numbers = numbers_told(target, deed[1])
        return (None if numbers is None else ((kind, numbers), None)), target
    if kind == "replace":
        numbers = numbers_told(target, (deed[1],) + deed[2])
        return (None if numbers is None else ((kind, numbers[0], numbers[1:]), None)), target
    if kind == "put" and target.many < MOST_WORDS:
        if is_word(deed[1], target.letters) and not target.has_word(deed[1]):
            more, moved = target.put_in(deed[1])
            return ((kind,), moved), more
    if kind == "strike" and target.many > 2 and target.has_word(deed[1]):
        less, moved = target.strike_out(deed[1])
        return ((kind,), moved), less
    return None, target


def numbers_told(dictionary, words):
    """The numbers of words; None if any value among them is none."""
    if not all([dictionary.has_word(word) for word in words]):
        return None
    return [dictionary.number_of(word) for word in words]


class Side:
    """What a script makes of texts, laid in a shelf; signs tell its numbers there."""

    def __init__(self, shelf, spoken, signs):
        codes = shelf.rules_in(spoken.shelf.rows, signs)
        self.shelf = shelf
        self.refusals = spoken.refusals
        self.images = [EMPTY if code == EMPTY else codes[code] for code in spoken.codes]
        self.front = EMPTY if spoken.front == EMPTY else codes[spoken.front]
        self.back = EMPTY if spoken.back == EMPTY else codes[spoken.back]

    def made_of(self, number):
        """The code of what is made of the text of one word."""
        return self.shelf.in_row([self.front, self.images[number], self.back])


def done_script(vault, script):
    """The vault behind the deeds of a script."""
    if vault.dictionary != script.dictionary:
        raise OtherDictionary()
    for deed in script.deeds:
        vault = deed_done(vault, deed)
    return vault


class ScriptsAlike:
    """Two scripts refuse the same texts, and make the same of all others."""

    def __init__(self, one, other):
        self.one = frozen(one)
        self.other = frozen(other)


class ScriptsApart:
    """They are unlike for the text of this word, or of none."""

    def __init__(self, one, other, word, place):
        self.one = frozen(one)
        self.other = frozen(other)
        self.word = frozen(word)
        self.place = frozen(place)


def judge_scripts(one, other):
    """ScriptsAlike, or ScriptsApart with the first word."""
    if one.dictionary != other.dictionary:
        raise OtherDictionary()
    if one.refused is None or other.refused is None:
        if one.refused is None and other.refused is None:
            return ScriptsAlike(one, other)
        return ScriptsApart(one, other, None, None)
    numbers = {}
    for word in one.target.words + other.target.words:
        numbers.setdefault(word, len(numbers))
    shelf = Shelf(len(numbers))
    side = Side(shelf, one.spoken, [numbers[word] for word in one.target.words])
    against = Side(shelf, other.spoken, [numbers[word] for word in other.target.words])
    place = parted_in(shelf, shelf.in_row([side.front, side.back]), shelf.in_row([against.front, against.back]))
    if place is not None:
        return ScriptsApart(one, other, None, place)
    number, place = first_unlike(shelf, side, against)
    if number is None:
        return ScriptsAlike(one, other)
    return ScriptsApart(one, other, one.dictionary.words[number], place)


def first_unlike(shelf, side, against):
    """The first number of a word for whose text two sides are unlike, and where they part; (None, None) if none is.

    The texts of no words are alike: so if the fronts are alike, the backs are, too.
    """
    fronts_alike = parted_in(shelf, side.front, against.front) is None
    for number, refusal in enumerate(side.refusals):
        if (refusal is None) != (against.refusals[number] is None):
            return number, None
        if refusal is not None or (fronts_alike and side.images[number] == against.images[number]):
            continue
        place = parted_in(shelf, side.made_of(number), against.made_of(number))
        if place is not None:
            return number, place
    return None, None
