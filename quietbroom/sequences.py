"""Sequences that nobody else can change."""


def frozen(value):
    """The value with a tuple in place of each list, at every depth."""
    if isinstance(value, (list, tuple)):
        return tuple([frozen(part) for part in value])
    return value
