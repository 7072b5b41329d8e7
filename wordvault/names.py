"""Names of rules."""

CAPITALS = "ABCDEFGHIJKLMNOPQRSTUVWXYZ"


def is_name(value):
    """Whether it is a name: 1 to 8 capital letters."""
    return isinstance(value, str) and 1 <= len(value) <= 8 and all([letter in CAPITALS for letter in value])


def name_at(number):
    """The name with this number in the order A, B, .., Z, AA, AB, .., ZZ, AAA."""
    letters = []
    left = number + 1
    while left > 0:
        left, place = divmod(left - 1, 26)
        letters.append(CAPITALS[place])
    return "".join(letters[::-1])
