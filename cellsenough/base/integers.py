"""Which values count as integers."""

DIGITS = "0123456789"
MOST_DIGITS = 60
LIMIT = 10 ** 60


def is_integer(value):
    """Whether the value is an integer of at most sixty digits."""
    # For Python, True and False are integers, too.
    return isinstance(value, int) and not isinstance(value, bool) and -LIMIT < value < LIMIT


def are_integers(value):
    """Whether the value is a tuple of such integers."""
    return isinstance(value, tuple) and all([is_integer(part) for part in value])


def are_ascending(value, many):
    """Whether the value is an ascending tuple of indices of so many things."""
    if not are_integers(value) or not all([0 <= at < many for at in value]):
        return False
    return all([before < at for before, at in zip(value, value[1:])])
