"""What several tests share: lists in the place of texts, and values of wrong kinds."""

import itertools

from wordvault.machines import Machine
from wordvault.names import name_at
from wordvault.texts import Text

# Values that are no integers, whatever is asked of them.
NO_INTEGERS = [None, True, False, "", "1", "a", [], [1], (), (0,), {}, {"a": 1}]


def listed(text):
    """The signs of a small text, told by its rules alone."""
    told = {}

    def tell(name):
        if name not in told:
            row = []
            for part, count in text.rules[name]:
                row.extend((tell(part) if isinstance(part, str) else [part]) * count)
            told[name] = row
        return told[name]

    return tell(text.root)


def random_text(rng, signs, rules, most=300):
    """A small text, and its signs."""
    told, lists = {}, {}
    for number in range(rules):
        while True:
            row, signs_told = [], []
            for _ in range(rng.randint(0, 4)):
                count = rng.choice([1, 1, 1, 2, 3, rng.randint(1, 9)])
                if number and rng.random() < 0.7:
                    name = name_at(rng.randrange(max(0, number - 4), number))
                    row.append((name, count))
                    signs_told += lists[name] * count
                else:
                    sign = rng.randrange(signs)
                    row.append((sign, count))
                    signs_told += [sign] * count
            if len(signs_told) <= most:
                break
        told[name_at(number)] = row
        lists[name_at(number)] = signs_told
    root = name_at(rng.randrange(rules // 2, rules))
    return Text(signs, told, root), lists[root]


def told_otherwise(rng, signs, row):
    """A text with these signs, its rules made at random."""
    rules = {}

    def tell(part):
        if len(part) <= 3 or rng.random() < 0.1:
            body = [(sign, 1) for sign in part[:39]]
            if len(part) > 39:
                body.append((tell(part[39:]), 1))
        else:
            body = None
            for size in range(1, len(part) // 2 + 1):
                if len(part) % size == 0 and part == part[:size] * (len(part) // size) and rng.random() < 0.8:
                    body = [(tell(part[:size]), len(part) // size)]
                    break
            if body is None:
                cut = rng.randint(1, len(part) - 1)
                body = [(tell(part[:cut]), 1), (tell(part[cut:]), 1)]
        name = name_at(len(rules))
        rules[name] = body
        return name

    return Text(signs, rules, tell(list(row)))


def random_machine(rng, signs, states):
    """A machine told in any form."""
    rows = []
    for _ in range(states):
        moves, least = [], 0
        while least < signs and rng.random() < 0.8:
            first = rng.randint(least, signs - 1)
            last = rng.randint(first, signs - 1)
            moves.append((first, last, rng.randrange(states)))
            least = last + 1
        rows.append((rng.randrange(states), moves))
    marks = [state for state in range(states) if rng.random() < 0.5]
    return Machine(signs, rows, rng.randrange(states), marks)


def rows_up_to(signs, most):
    """All rows of signs of at most this length, in order."""
    for size in range(most + 1):
        for row in itertools.product(range(signs), repeat=size):
            yield row


def words_up_to(letters, most):
    """All words of at most this length, by length, then in order."""
    for size in range(most + 1):
        for word in itertools.product(letters, repeat=size):
            yield "".join(word)


def fields_of(error):
    """The attributes of an error."""
    return dict(vars(error))


def raised(call, *given):
    """The error that a call raises: its name and its attributes; None if it raises none."""
    try:
        call(*given)
    except ValueError as error:
        return (type(error).__name__,) + tuple(fields_of(error).values())
    return None
