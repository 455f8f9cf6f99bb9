"""Checks of numbers that several modules need."""

from cellsenough.base.integers import is_integer
from cellsenough.errors import InvalidNumber, NothingToUndo


def check_index(index, many):
    """Refuses what is no index of so many things."""
    if not is_integer(index) or not 0 <= index < many:
        raise InvalidNumber(index)


def check_undo(many, there):
    """Refuses what is no number of things to take back, or is more than there are."""
    if not is_integer(many) or many < 0:
        raise InvalidNumber(many)
    if many > there:
        raise NothingToUndo(many)
