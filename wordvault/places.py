"""Places of phrases in texts by rules."""

from wordvault.checks import is_between
from wordvault.errors import BadPlace
from wordvault.finders import check_wish, finder
from wordvault.phrases import check_phrases
from wordvault.runs import Run


class Places:
    """The wanted places of a phrase in a text."""

    def __init__(self, phrase, text, wish="all"):
        check_phrases([phrase, text])
        check_wish(wish)
        self.phrase = phrase
        self.text = text
        self.wish = wish
        # It marks the last place of the phrase, wherever a wanted place ends.
        self._run = Run(finder(phrase, wish), text)
        self.many = self._run.many

    def place_at(self, k):
        """The wanted place with this number."""
        if not is_between(k, 0, self.many - 1):
            raise BadPlace(k)
        return self._run.place_at(k) - self.phrase.width + 1

    def number_ahead(self, place):
        """How many wanted places are less."""
        return self._run.number_ahead(min(max(place + self.phrase.width - 1, 0), self.text.size))

    def first_from(self, place):
        """The least wanted place that is not less, or None."""
        number = self.number_ahead(place)
        return self.place_at(number) if number < self.many else None

    def last_ahead(self, place):
        """The greatest wanted place that is less, or None."""
        number = self.number_ahead(place)
        return self.place_at(number - 1) if number > 0 else None
