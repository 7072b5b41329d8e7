"""Maps of numbers: what becomes of old numbers when some come and go."""

from wordvault.checks import is_between, is_tuple_of
from wordvault.errors import BadMany, BadMap, BadRange, NoNumber, OtherMap, TooMany


class NumberMap:
    """A new number, or None, for each old number; the new ones ascend."""

    def __init__(self, many, numbers):
        if not is_between(many, 0, 2000):
            raise BadMany(many)
        if len(numbers) > 2000:
            raise TooMany("numbers", len(numbers), 2000)
        least = 0
        for index, number in enumerate(numbers):
            if number is not None:
                if not is_between(number, least, many - 1):
                    raise BadMap(index)
                least = number + 1
        self.many = many
        self.numbers = tuple(numbers)

    def __eq__(self, other):
        return isinstance(other, NumberMap) and self.many == other.many and self.numbers == other.numbers

    def number_behind(self, number):
        """The new number of an old one, or None."""
        if not is_between(number, 0, len(self.numbers) - 1):
            raise NoNumber(number)
        return self.numbers[number]

    def fresh_numbers(self):
        """The new numbers to which no old one goes."""
        gone_to = {number: True for number in self.numbers}
        return [number for number in range(self.many) if number not in gone_to]

    def followed_by(self, other):
        """This map and then the other one, as one map."""
        if len(other.numbers) != self.many:
            raise OtherMap()
        behind = [None if number is None else other.numbers[number] for number in self.numbers]
        return NumberMap(other.many, behind)

    def ranges_behind(self, ranges):
        """The ranges of the new numbers of all old ones in these ranges."""
        wrong = first_wrong_range(ranges, len(self.numbers))
        if wrong is not None:
            raise BadRange(wrong)
        behind = []
        for first, last in ranges:
            behind.extend([number for number in self.numbers[first:last + 1] if number is not None])
        return ranges_of(behind)


def first_wrong_range(ranges, many):
    """The index of the first element that does not stand as ranges of the numbers below many do; or None."""
    least = 0
    for index, pair in enumerate(ranges):
        if not is_tuple_of(pair, 2):
            return index
        first, last = pair
        if not is_between(first, least, many - 1) or not is_between(last, first, many - 1):
            return index
        least = last + 2
    return None


def ranges_of(numbers):
    """The ranges of ascending numbers, a list of pairs."""
    ranges = []
    for number in numbers:
        if ranges and ranges[-1][1] == number - 1:
            ranges[-1] = (ranges[-1][0], number)
        else:
            ranges.append((number, number))
    return ranges
