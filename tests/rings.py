"""Texts with great counts for the tests of promise 22, and what is said of them without comparing rules."""

from wordvault.edits import cut_out, joined, repeated
from wordvault.names import name_at
from wordvault.texts import Text

MODULUS = 2 ** 127 - 1
BASE = 0x1234567890ABCDEF1234567890ABCDEF % MODULUS


class Row:
    """Units, each so many times, one behind the other."""

    def __init__(self, *parts):
        self.parts = [(list(unit), many) for unit, many in parts]
        self.size = sum(len(unit) * many for unit, many in self.parts)

    def at(self, place):
        """The unit that stands at a place, where in it this is, and how many signs of its copies are left."""
        for unit, many in self.parts:
            if place < len(unit) * many:
                return unit, place % len(unit), len(unit) * many - place
            place -= len(unit) * many
        return None

    def sign(self, place):
        unit, inside, _ = self.at(place)
        return unit[inside]

    def text(self, *turns):
        """A text of these signs; copies of the units are told from these places of them on, 0 if there are no more."""
        rules, root = {}, []
        for number, (unit, many) in enumerate(self.parts):
            turn = turns[number] if number < len(turns) else 0
            name = name_at(number + 1)
            rules[name] = [(sign, 1) for sign in unit[turn:] + unit[:turn]]
            if turn == 0:
                root.append((name, many))
            else:
                root.extend((sign, 1) for sign in unit[:turn])
                if many > 1:
                    root.append((name, many - 1))
                root.extend((sign, 1) for sign in unit[turn:])
        rules["A"] = root
        return Text(5, rules, "A")


def alike_rows(one, first, other, second):
    """How many signs of two Rows are alike: copies of two units are alike if as many signs as both have are so."""
    alike = 0
    while first + alike < one.size and second + alike < other.size:
        unit, inside, left = one.at(first + alike)
        other_unit, other_inside, other_left = other.at(second + alike)
        both = min(left, other_left)
        for many in range(min(both, len(unit) + len(other_unit))):
            if unit[(inside + many) % len(unit)] != other_unit[(other_inside + many) % len(other_unit)]:
                return alike + many
        alike += both
    return alike


def power(base, exponent):
    return pow(base, exponent % (MODULUS - 1), MODULUS)


class Prints:
    """Numbers for stretches of a text, which are equal if the signs are, and hardly ever otherwise."""

    def __init__(self, text):
        self.rules = text.rules
        self.root = text.root
        self.told = {}
        # What a name tells, told without going down in calls.
        todo = [text.root]
        while todo:
            lacking = [part for part, _ in self.rules[todo[-1]] if isinstance(part, str) and part not in self.told]
            if not lacking:
                name = todo.pop()
                self.told[name] = self.of_row(self.rules[name])
            todo.extend(lacking)

    def of_part(self, part):
        return (part + 1, 1) if isinstance(part, int) else self.told[part]

    def of_copies(self, part, count):
        number, size = self.of_part(part)
        step = power(BASE, size)
        if step == 1:
            return number * count % MODULUS, size * count
        return number * (power(step, count) - 1) * pow(step - 1, -1, MODULUS) % MODULUS, size * count

    def of_row(self, row):
        number, size = 0, 0
        for part, count in row:
            behind, many = self.of_copies(part, count)
            number = (number * power(BASE, many) + behind) % MODULUS
            size += many
        return number, size

    def ahead(self, place):
        """The number of all signs ahead of a place."""
        passed = []
        row = [(self.root, 1)]
        while place > 0:
            for part, count in row:
                size = self.of_part(part)[1]
                many = min(count, place // size) if size else count
                passed.append((part, many))
                place -= many * size
                if many < count:
                    row = self.rules[part] if isinstance(part, str) else []
                    break
        return self.of_row(passed)[0]

    def stretch(self, first, many):
        return (self.ahead(first + many) - self.ahead(first) * power(BASE, many)) % MODULUS


def told_from(text, place, count):
    """The text so often, told as copies that begin at one of its places."""
    if count == 1 or place in (0, text.size):
        return repeated(text, count)
    ahead, behind = cut_out(text, 0, place), cut_out(text, place, text.size - place)
    return joined(joined(ahead, repeated(joined(behind, ahead), count - 1)), behind)


def two_tellings(rng, depth, great):
    """Two texts of the same signs, both of short rules."""
    if depth == 0 or rng.random() < 0.1:
        row = [(rng.randrange(3), 1) for _ in range(rng.randint(1, rng.choice([2, 3, 6, 10])))]
        return Text(3, {"A": row}, "A"), Text(3, {"B": row}, "B")
    one, other = two_tellings(rng, depth - 1, great)
    if rng.random() < 0.3:
        behind, other_behind = two_tellings(rng, depth - 1, great)
        return joined(one, behind), joined(other, other_behind)
    count = rng.choice([2, 3, great, great - rng.randint(1, 3), great // 2])
    place = rng.choice([rng.randint(0, one.size), 1, one.size - 1, one.size // 2])
    return repeated(one, count), told_from(other, place, count)


def random_rules(rng, counts):
    """A text of some short rules, none of them empty."""
    rules = {}
    signs, rows, near = rng.randint(2, 4), rng.choice([2, 3, 5, 8]), rng.choice([1, 2, 3, 5])
    for number in range(rng.randint(2, 10)):
        row = [(0, 1)]
        for _ in range(rng.randint(1, rows)):
            part = rng.randrange(signs)
            if number and rng.random() < 0.8:
                part = name_at(rng.randrange(max(0, number - near), number))
            row.append((part, rng.choice(counts)))
        rules[name_at(number)] = row[rng.randint(0, 1):]
    return Text(signs, rules, name_at(len(rules) - 1))


def one_later(text):
    """The text without its first sign, and a 0; each rule tells what it did from its second sign on."""
    rules, told, names = text.rules, {}, {}

    def first(part):
        while isinstance(part, str):
            part = rules[part][0][0]
        return part

    def name_of(part, behind):
        if (part, behind) not in names:
            names[(part, behind)] = name_at(len(names))
            todo.append((part, behind))
        return names[(part, behind)]

    todo = []
    root = name_of(text.root, 0)
    while todo:
        name, behind = todo.pop()
        row = []
        for at, (part, count) in enumerate(rules[name]):
            sign_behind = first(rules[name][at + 1][0]) if at + 1 < len(rules[name]) else behind
            if count > 1:
                sign = first(part)
                row.append((name_of(part, sign) if isinstance(part, str) else part, count - 1))
            row.append((name_of(part, sign_behind) if isinstance(part, str) else sign_behind, 1))
        told[names[(name, behind)]] = row
    return Text(text.signs, told, root)
