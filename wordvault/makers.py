"""Searchers that are made for a phrase."""

from wordvault.classes import classes_of, fits_of
from wordvault.errors import BadWay, TooMany
from wordvault.finders import check_wish
from wordvault.searchers import MOST_CLASSES, MOST_NODES, MOST_STATES, MOST_WIDTH, Searcher

NOT_KNOWN = -1


def made(phrase, way, wish="all"):
    """A searcher for a phrase."""
    if phrase.width > MOST_WIDTH:
        raise TooMany("spots", phrase.width, MOST_WIDTH)
    classes = classes_of([phrase])
    if len(classes) > MOST_CLASSES:
        raise TooMany("classes", len(classes), MOST_CLASSES)
    if not isinstance(way, str) or way not in ("plain", "all knowledge"):
        raise BadWay(way)
    check_wish(wish)
    maker = Maker(phrase, wish, fits_of(classes, phrase))
    trees = [maker.plain_tree()] if way == "plain" else maker.all_trees()
    return Searcher(phrase.signs, classes, phrase.width, trees)


class Maker:
    """Makes the trees; states are what is known of the places of the window, in the order in which they are met."""

    def __init__(self, phrase, wish, fits):
        self.width = phrase.width
        self.apart = wish == "apart"
        self.fits = fits
        # The places whose spot has not all signs.
        self.asked = [place for place in range(self.width) if not all([fit >> place & 1 for fit in fits])]
        self.states = [(NOT_KNOWN,) * self.width]
        self.numbers = {self.states[0]: 0}
        self.nodes = 0

    def plain_tree(self):
        """The tree that reads from the left, and goes by 1."""
        go = ("go", 1, 0)
        tree = ("tell", ("go", self.width, 0) if self.apart else go)
        for place in self.asked[::-1]:
            tree = ("read", place, tuple([tree if fit >> place & 1 else go for fit in self.fits]))
        return tree

    def all_trees(self):
        """The trees that read from the right, and forget nothing."""
        trees = []
        while len(trees) < len(self.states):
            trees.append(self.tree(self.states[len(trees)]))
            if len(self.states) > MOST_STATES:
                raise TooMany("states", MOST_STATES + 1, MOST_STATES)
        return trees

    def tree(self, known):
        """The tree of a window of which this is known, all of it fitting."""
        self.count_node()
        unread = [place for place in self.asked if known[place] == NOT_KNOWN]
        if not unread:
            return ("tell", self.last_go() if self.apart else self.go(known))
        place = unread[-1]
        trees = []
        for number, fit in enumerate(self.fits):
            more = known[:place] + (number,) + known[place + 1:]
            trees.append(self.tree(more) if fit >> place & 1 else self.go(more))
        return ("read", place, tuple(trees))

    def last_go(self):
        """Behind a tell nothing that overlaps is wanted: the window goes by its width."""
        self.count_node()
        return ("go", self.width, 0)

    def go(self, known):
        """Goes by the least slide at which what is known lets the phrase stand."""
        self.count_node()
        slide = 1
        while not self.may_stand(known[slide:]):
            slide += 1
        left = known[slide:] + (NOT_KNOWN,) * slide
        if left not in self.numbers:
            self.numbers[left] = len(self.states)
            self.states.append(left)
        return ("go", slide, self.numbers[left])

    def may_stand(self, known):
        """Whether each spot has the class that is known at its place."""
        return all([number == NOT_KNOWN or self.fits[number] >> place & 1 == 1 for place, number in enumerate(known)])

    def count_node(self):
        """One tree more."""
        self.nodes += 1
        if self.nodes > MOST_NODES:
            raise TooMany("nodes", MOST_NODES + 1, MOST_NODES)
