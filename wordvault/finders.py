"""Machines that find phrases."""

from wordvault.automata import laid_out, least_table, stretched
from wordvault.checks import first_wrong_sign
from wordvault.classes import class_numbers, classes_of, fits_of
from wordvault.errors import BadSign, BadWish
from wordvault.machines import machine_of


def check_wish(wish):
    """Raises BadWish for any value that is no wish."""
    if not isinstance(wish, str) or wish not in ("all", "apart"):
        raise BadWish(wish)


def wanted(phrase, row, wish="all"):
    """The places of a row at which the phrase stands: all, or each one behind the end of the one before."""
    wrong = first_wrong_sign(row, phrase.signs)
    if wrong is not None:
        raise BadSign(wrong)
    check_wish(wish)
    places = []
    least = 0
    for place in range(len(row) - phrase.width + 1):
        if place >= least and phrase.fits_row(row[place:place + phrase.width]):
            places.append(place)
            if wish == "apart":
                least = place + phrase.width
    return tuple(places)


def finder(phrase, wish="all"):
    """The least machine whose texts are the rows at whose end a wanted place ends."""
    check_wish(wish)
    classes = classes_of([phrase])
    found, ends = found_table(phrase, wish, fits_of(classes, phrase))
    rows, kinds = least_table(found, ends, 0)
    numbers = class_numbers(classes, phrase.signs)
    table = []
    for row in rows:
        targets = laid_out(row, len(classes))
        table.append(stretched([targets[number] for number in numbers]))
    return machine_of(phrase.signs, table, 0, kinds)


def found_table(phrase, wish, fits):
    """The stretch rows of all that may be found of the phrase, the classes being the signs, and their kinds.

    What is found has a bit for each spot, whether all spots up to this one fit the last signs.
    """
    whole = 1 << phrase.width - 1
    numbers = {0: 0}
    order = [0]
    rows = []
    while len(rows) < len(order):
        found = order[len(rows)]
        targets = []
        for fit in fits:
            behind = (found << 1 | 1) & fit
            if wish == "apart" and behind & whole:
                # Nothing that overlaps a place that was told is wanted.
                behind = whole
            if behind not in numbers:
                numbers[behind] = len(order)
                order.append(behind)
            targets.append(numbers[behind])
        rows.append(stretched(targets))
    return rows, [found & whole != 0 for found in order]
