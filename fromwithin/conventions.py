"""The conventions of the document for values of any kind (point 3)."""

LONGEST_NAME = 8


def is_integer(value):
    """Return whether any value is an integer."""
    # Python counts True and False as integers, the document does not.
    return isinstance(value, int) and not isinstance(value, bool)


def is_name(value):
    """Return whether any value is a name."""
    if not isinstance(value, str) or not 1 <= len(value) <= LONGEST_NAME:
        return False
    return all(["a" <= letter <= "z" for letter in value])


def is_pair(value):
    """Return whether any value is a tuple of two values."""
    return isinstance(value, tuple) and len(value) == 2


def is_ascending(sequence):
    """Return whether each element is greater than the previous one. They must be comparable."""
    return all([one < other for one, other in zip(sequence, sequence[1:])])
