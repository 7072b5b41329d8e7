"""What any value may be asked."""


def is_whole(value):
    """Whether it is an integer: a bool is none."""
    return isinstance(value, int) and not isinstance(value, bool)


def is_between(value, low, high):
    """Whether it is an integer from low to high, both counted."""
    return is_whole(value) and low <= value <= high


def is_from(value, low):
    """Whether it is an integer from low on."""
    return is_whole(value) and low <= value


def is_list(value):
    """Whether it may be passed where a list is described."""
    return isinstance(value, (list, tuple))


def is_tuple_of(value, size):
    """Whether it is a tuple of so many elements."""
    return isinstance(value, tuple) and len(value) == size


def first_wrong_sign(row, signs):
    """The index of the first element that is no sign; None if all are."""
    for index, sign in enumerate(row):
        if not is_between(sign, 0, signs - 1):
            return index
    return None
