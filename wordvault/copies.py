"""Copies of any values."""


def copied(value):
    """The same value, of the same kinds, with lists and dicts of its own."""
    if isinstance(value, list):
        return [copied(part) for part in value]
    if isinstance(value, tuple):
        return tuple([copied(part) for part in value])
    if isinstance(value, dict):
        return {key: copied(part) for key, part in value.items()}
    return value


def frozen(value):
    """The same value with lists as tuples at every depth."""
    if isinstance(value, (list, tuple)):
        return tuple([frozen(part) for part in value])
    if isinstance(value, dict):
        return {key: frozen(part) for key, part in value.items()}
    return value
