"""Differences: numbers that fit them, rings that show that none do, and systems that are added to one by one."""

from cellsenough.base.checks import check_undo
from cellsenough.base.frames import check_frame
from cellsenough.base.integers import LIMIT, are_integers, is_integer
from cellsenough.errors import InvalidNumber, InvalidOperation, InvalidTerm, Refused, TooMany
from cellsenough.logic.shapes import check_claim
from cellsenough.solve.differing import are_differences, is_point, is_ring_of, least_bound, literal_differences
from cellsenough.solve.differing import numbers_or_ring, points_of

MAX_DIFFERENCES = 60


def fitting(differences):
    """Integers for all points for which the differences are true, or None."""
    _check_differences(differences)
    return _fitting(differences)


def is_fitting(differences, value):
    """Whether the value is a dict of such integers, of at most sixty digits."""
    _check_differences(differences)
    points = points_of(differences)
    if not isinstance(value, dict) or len(value) != len(points):
        return False
    # A key with True in the place of 1 would be found under the point, too.
    if not all([is_point(key) and is_integer(value[key]) for key in value]):
        return False
    if not all([point in value for point in points]) or value[""] != 0:
        return False
    return all([value[one] - value[other] <= number for one, other, number in differences])


def ring(differences):
    """A ring of the differences, or None."""
    _check_differences(differences)
    return _ring(differences)


def is_ring(differences, value):
    """Whether the value is a ring of the differences."""
    _check_differences(differences)
    if not are_integers(value) or not all([0 <= index < len(differences) for index in value]):
        return False
    return is_ring_of([differences[index] for index in value])


def tightest(differences, one, other):
    """The least integer that `one` less `other` never exceeds, or None."""
    _check_differences(differences)
    _check_point(one)
    _check_point(other)
    if _ring(differences) is not None:
        raise InvalidOperation("nothing fits")
    return least_bound(differences, one, other)


def needless(differences):
    """The ascending tuple of the indices of all differences that are true wherever the other ones are."""
    _check_differences(differences)
    told = []
    for index, difference in enumerate(differences):
        if _follows(differences[:index] + differences[index + 1:], difference):
            told.append(index)
    return tuple(told)


def differences_of(frame, claim):
    """The differences that an atom, or a not of one, says."""
    check_frame(frame)
    check_claim(frame, claim)
    told = literal_differences(claim)
    if told is None:
        raise InvalidOperation("this is neither an atom nor such a not of one")
    return told


class System:
    """Differences that are added one by one, as long as they fit."""

    def __init__(self):
        self._differences = ()

    def add(self, one, other, number):
        """Adds a difference, and returns what was known of its points ahead of it."""
        _check_point(one)
        _check_point(other)
        if not is_integer(number):
            raise InvalidNumber(number)
        if len(self._differences) == MAX_DIFFERENCES:
            raise TooMany(MAX_DIFFERENCES)
        added = (*self._differences, (one, other, number))
        found = _ring(added)
        if found is not None:
            raise Refused(found)
        known = least_bound(self._differences, one, other)
        self._differences = added
        return known

    @property
    def differences(self):
        """The tuple of the differences."""
        return self._differences

    @property
    def fitting(self):
        """Integers for all points for which the differences are true."""
        return _fitting(self._differences)

    def bound(self, one, other):
        """The least integer that `one` less `other` never exceeds, or None."""
        _check_point(one)
        _check_point(other)
        return least_bound(self._differences, one, other)

    def undo(self, *, many=1):
        """Takes the last differences back and returns them, the last one first."""
        check_undo(many, len(self._differences))
        kept = len(self._differences) - many
        taken = self._differences[kept:]
        self._differences = self._differences[:kept]
        return taken[::-1]

    def twin(self):
        """An equal system that goes on by itself."""
        other = System()
        other._differences = self._differences
        return other

    def __len__(self):
        return len(self._differences)

    def __eq__(self, other):
        return isinstance(other, System) and self._differences == other._differences

    def __str__(self):
        return f"system of {len(self._differences)} differences"


def _check_differences(value):
    """Refuses what is no tuple of differences."""
    if not are_differences(value, MAX_DIFFERENCES):
        raise InvalidOperation("these are not differences, or too many")


def _check_point(value):
    """Refuses what is no point."""
    if not is_point(value):
        raise InvalidTerm("this is no point")


def _fitting(differences):
    """Integers that fit, of at most sixty digits where there are such, or None."""
    numbers, found = numbers_or_ring(differences)
    if found is not None or all([is_integer(numbers[point]) for point in numbers]):
        return numbers
    bounds = [(point, "", LIMIT - 1) for point in numbers] + [("", point, LIMIT - 1) for point in numbers]
    short, _ = numbers_or_ring([*differences, *bounds])
    return numbers if short is None else short


def _ring(differences):
    """A ring of the differences, or None."""
    _, found = numbers_or_ring(differences)
    return None if found is None else tuple(found)


def _follows(differences, difference):
    """Whether the difference is true for all integers that fit the others."""
    if _ring(differences) is not None:
        return True
    one, other, number = difference
    bound = least_bound(differences, one, other)
    return bound is not None and bound <= number
