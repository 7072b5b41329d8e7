"""Texts told by rules that are numbered.

A code is a sign, or signs and the number of a rule added, or EMPTY for no sign at
all. A rule is a tuple of pairs (code, count), count from 1 on; none is empty, none is
just one code once, and each has only rules of lesser numbers in it. So a walk
over a text never goes down for nothing.
"""

EMPTY = -1


class Grammar:
    """Rules, their sizes, and the code of the text."""

    def __init__(self, signs, rows, sizes, top):
        self.signs = signs
        self.rows = rows
        self.sizes = sizes
        self.top = top

    def size_of(self, code):
        """How many signs a code tells."""
        if code == EMPTY:
            return 0
        return 1 if code < self.signs else self.sizes[code - self.signs]

    def row_of(self, code):
        """The pairs of a code; a sign is a pair of itself."""
        return ((code, 1),) if code < self.signs else self.rows[code - self.signs]

    def sign_at(self, place):
        """The sign at a place."""
        code = self.top
        while code >= self.signs:
            for part, count in self.rows[code - self.signs]:
                size = self.size_of(part)
                if place < size * count:
                    code = part
                    place = place % size
                    break
                place -= size * count
        return code

    def signs_from(self, place, many):
        """A list of so many signs from a place on."""
        return self.signs_of(self.top, place, many)

    def signs_of(self, top, place, many):
        """A list of so many of the signs of a code, from a place on."""
        found = []
        todo = [] if top == EMPTY else [(top, 1)]
        while todo and len(found) < many:
            code, count = todo.pop()
            if place:
                passed = min(count, place // self.size_of(code))
                place -= passed * self.size_of(code)
                count -= passed
            if count and code < self.signs:
                found.extend([code] * min(count, many - len(found)))
            elif count:
                if count > 1:
                    todo.append((code, count - 1))
                todo.extend(self.rows[code - self.signs][::-1])
        return found

    def whole_row(self):
        """The pairs of the whole text."""
        return [] if self.top == EMPTY else [(self.top, 1)]

    def pieces(self, top, first, behind):
        """Pairs (code, count) that tell the signs of a code from first on, ahead of behind: as few as can be."""
        told = []
        todo = [(top, 1, first, behind)] if first < behind else []
        while todo:
            code, count, first, behind = todo.pop()
            size = self.size_of(code)
            if first % size == 0 and behind % size == 0:
                told.append((code, (behind - first) // size))
            elif first // size == (behind - 1) // size:
                ahead = first // size * size
                todo.extend(self.runs_within(code, first - ahead, behind - ahead)[::-1])
            else:
                runs = self.runs_within(code, first % size, size) if first % size else []
                copies = behind // size - (first + size - 1) // size
                if copies:
                    runs.append((code, copies, 0, copies * size))
                if behind % size:
                    runs.extend(self.runs_within(code, 0, behind % size))
                todo.extend(runs[::-1])
        return told

    def runs_within(self, code, first, behind):
        """The pairs of a rule of which signs stand from first on, ahead of behind, each with what of it does."""
        runs = []
        at = 0
        for part, count in self.rows[code - self.signs]:
            size = self.size_of(part) * count
            low, high = max(first - at, 0), min(behind - at, size)
            if low < high:
                runs.append((part, count, low, high))
            at += size
        return runs

    def tally_of(self, times):
        """How often each sign comes where each code comes so often as times, a dict, tells."""
        tally = [0] * self.signs
        for code in range(self.signs + len(self.rows) - 1, -1, -1):
            often = times.get(code, 0)
            if often and code < self.signs:
                tally[code] = often
            elif often:
                for part, count in self.rows[code - self.signs]:
                    times[part] = times.get(part, 0) + often * count
        return tuple(tally)

    def tally(self):
        """How often each sign comes."""
        return self.tally_of({code: count for code, count in self.whole_row()})

    def tally_ahead(self, place):
        """How often each sign comes ahead of a place."""
        times = {}
        for code, count in self.pieces(self.top, 0, place):
            times[code] = times.get(code, 0) + count
        return self.tally_of(times)

    def place_of(self, sign, number):
        """Where a sign comes for the time with this number, from 0 on; None if it does not come so often."""
        times = {sign: 1}
        for rule, row in enumerate(self.rows):
            times[self.signs + rule] = sum([times.get(part, 0) * count for part, count in row])
        code = self.top
        if number >= times.get(code, 0):
            return None
        place = 0
        while code >= self.signs:
            for part, count in self.rows[code - self.signs]:
                often = times.get(part, 0)
                if number < often * count:
                    place += number // often * self.size_of(part)
                    number = number % often
                    code = part
                    break
                number -= often * count
                place += count * self.size_of(part)
        return place


def grammar_of(signs, rules, names):
    """The Grammar of rules told by names; names are those at or below the root, each behind those in its rule."""
    codes = {}
    rows, sizes = [], []
    grammar = Grammar(signs, rows, sizes, EMPTY)
    for name in names:
        row = []
        for part, count in rules[name]:
            code = codes[part] if isinstance(part, str) else part
            if code != EMPTY:
                row.append((code, count))
        if not row:
            codes[name] = EMPTY
        elif len(row) == 1 and row[0][1] == 1:
            codes[name] = row[0][0]
        else:
            codes[name] = signs + len(rows)
            sizes.append(sum([grammar.size_of(code) * count for code, count in row]))
            rows.append(tuple(row))
    grammar.top = codes[names[-1]]
    return grammar
