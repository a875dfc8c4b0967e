"""The conventions of the document for values of any kind (point 3)."""


def is_integer(value):
    """Return whether any value is an integer."""
    # Python counts True and False as integers, the document does not.
    return isinstance(value, int) and not isinstance(value, bool)


def is_pair(value):
    """Return whether any value is a tuple of two values."""
    return isinstance(value, tuple) and len(value) == 2


def is_ascending(sequence):
    """Return whether each element is greater than the previous one. They must be comparable."""
    return all([one < other for one, other in zip(sequence, sequence[1:])])
