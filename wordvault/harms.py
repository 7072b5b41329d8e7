"""How many signs a damage can hurt."""

from wordvault.automata import components, row_to, walked
from wordvault.checks import is_from, is_tuple_of
from wordvault.copies import frozen
from wordvault.layouts import hurt_indexes, turned_at
from wordvault.noticed import are_places_in, is_kind
from wordvault.tworeaders import RowsMet, TwoReaders, bits_and_places


class Harm:
    """The greatest number of hurt signs; None if there is none: then the ring may come any number of times."""

    def __init__(self, layout, damage, seen, most, table, front, places, ring, back, later):
        self.layout = frozen(layout)
        self.damage = frozen(damage)
        self.seen = frozen(seen)
        self.most = frozen(most)
        self.table = frozen(table)
        self.front = frozen(front)
        self.places = frozen(places)
        self.ring = frozen(ring)
        self.back = frozen(back)
        self.later = frozen(later)


def harm(layout, damage, *, seen=False):
    """How many signs a damage of the kind can hurt that is not noticed, or any one, if seen is True."""
    readers = TwoReaders(layout, damage, None, not seen)
    met = RowsMet(readers)
    heights = Heights(met)
    if heights.endless is not None:
        front, places, ring, back, later = heights.rows_without_end()
        return Harm(layout, damage, seen, None, (), front, places, ring, back, later)
    table = sorted([(row, heights.told[number]) for number, row in enumerate(met.order)], key=lambda pair: pair[0])
    most = heights.told[0]
    if most is None or most == 0:
        return Harm(layout, damage, seen, 0, table, (), (), (), (), ())
    front, places = heights.worst_text()
    return Harm(layout, damage, seen, most, table, front, places, (), (), ())


class Heights:
    """For each row the most steps that hurt on a way to an end, None if no way leads to one.

    endless is a step that hurts in a ring from which a way leads to an end, as the pair
    (number of the row ahead, number of the row behind); None if there is no such step.
    """

    def __init__(self, met):
        self.met = met
        self.rings = components([[behind for _, behind in row] for row in met.table()])
        self.told = [None] * len(met.order)
        self.endless = None
        members = {}
        for number, ring in enumerate(self.rings):
            members.setdefault(ring, []).append(number)
        # Rings behind a ring have lesser numbers: their heights are known.
        for ring in sorted(list(members)):
            self.find(members[ring])

    def find(self, members):
        """Finds the heights of the rows of one ring: they are all alike."""
        best = None
        turns = []
        for number in members:
            if self.met.readers.is_end(self.met.order[number]):
                best = 0 if best is None else best
            for _, _, hurts, behind in self.met.steps[number]:
                if behind is None:
                    continue
                if self.rings[behind] == self.rings[number]:
                    if hurts:
                        turns.append((number, behind))
                elif self.told[behind] is not None:
                    height = self.told[behind] + (1 if hurts else 0)
                    best = height if best is None else max(best, height)
        for number in members:
            self.told[number] = best
        if best is not None and turns and self.endless is None:
            self.endless = turns[0]

    def signs_of(self, bits):
        """The signs of bits from the root to the root."""
        _, signs = self.met.readers.code.tree.read(0, bits)
        return tuple(signs)

    def worst_text(self):
        """A text, and the turned bits that hurt most of its signs: by steps along which no height is lost."""
        table = []
        for number, row in enumerate(self.met.steps):
            kept = []
            for bit, is_turned, hurts, behind in row:
                if behind is not None and self.told[behind] is not None:
                    if self.told[number] == self.told[behind] + (1 if hurts else 0):
                        kept.append(((bit, is_turned), behind))
            table.append(kept)
        order, came = walked(table, 0)
        ends = [number for number in order
                if self.told[number] == 0 and self.met.readers.is_end(self.met.order[number])]
        bits, places = bits_and_places(row_to(came, ends[0]))
        return self.signs_of(bits), places

    def rows_without_end(self):
        """The front and its turned places, a ring, nothing turned, and the back and its turned places.

        The ring begins behind a step that hurts: there the right reader stands at the root.
        """
        ahead, number = self.endless
        table = self.met.table()
        front, places = bits_and_places(row_to(self.met.came, number))
        order, came = walked(table, number)
        last = [step for step in self.met.steps[ahead] if step[2] and step[3] == number][0]
        ring, _ = bits_and_places(row_to(came, ahead) + ((last[0], last[1]),))
        end = [behind for behind in order if self.met.readers.is_end(self.met.order[behind])][0]
        back, later = bits_and_places(row_to(came, end))
        return self.signs_of(front), places, self.signs_of(ring), self.signs_of(back), later


def is_harm(told):
    """Whether it is so, for any such table and texts."""
    if not is_kind(told.layout, told.damage) or not isinstance(told.seen, bool):
        return False
    readers = TwoReaders(told.layout, told.damage, None, not told.seen)
    if not are_places_in(told.layout, told.front, told.places):
        return False
    if told.most is None:
        return is_tuple_of(told.table, 0) and is_endless(readers, told)
    if not is_from(told.most, 0) or not is_table(readers, told):
        return False
    if not all([is_tuple_of(field, 0) for field in (told.ring, told.back, told.later)]):
        return False
    return is_worst(readers, told)


def is_worst(readers, told):
    """Whether the front, so turned, has such a damage, and so many hurt signs; both are empty for none."""
    if told.most == 0:
        return told.front == () and told.places == ()
    bits = told.layout.words_of(told.front)
    rows = readers.way(readers.first, bits, told.places)
    if rows is None or not readers.is_end(rows[-1]):
        return False
    return len(hurt_indexes(told.layout, bits, turned_at(bits, told.places))) == told.most


def is_table(readers, told):
    """Whether the table has the first row, with each row those behind it, and heights that are great enough."""
    if not isinstance(told.table, tuple):
        return False
    heights = {}
    for pair in told.table:
        if not is_tuple_of(pair, 2) or not readers.is_row(pair[0]) or pair[0] in heights:
            return False
        if pair[1] is not None and not is_from(pair[1], 0):
            return False
        heights[pair[0]] = pair[1]
    if readers.first not in heights:
        return False
    if heights[readers.first] != told.most and not (heights[readers.first] is None and told.most == 0):
        return False
    for row in heights:
        if readers.is_end(row) and heights[row] is None:
            return False
        if not all([is_great_enough(heights, heights[row], step) for step in readers.steps(row)]):
            return False
    return True


def is_great_enough(heights, height, step):
    """Whether a height fits a step: the row behind has one, and it is not above it, nor as great if the step hurts."""
    _, _, hurts, behind = step
    if behind is None:
        return True
    if behind not in heights:
        return False
    if heights[behind] is None:
        return True
    return height is not None and height >= heights[behind] + (1 if hurts else 0)


def is_endless(readers, told):
    """Whether the front leads to a row, the ring to it again with a step that hurts, and the back to an end."""
    if not are_places_in(told.layout, told.ring, ()) or not told.ring:
        return False
    if not are_places_in(told.layout, told.back, told.later):
        return False
    front = readers.way(readers.first, told.layout.words_of(told.front), told.places)
    if front is None:
        return False
    bits = told.layout.words_of(told.ring)
    ring = readers.way(front[-1], bits, ())
    if ring is None or ring[-1] != front[-1]:
        return False
    if not any([readers.step(row, bit, False)[2] for row, bit in zip(ring, bits)]):
        return False
    back = readers.way(front[-1], told.layout.words_of(told.back), told.later)
    return back is not None and readers.is_end(back[-1])
