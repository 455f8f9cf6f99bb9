"""Differences of points: which values are some, which ones claims say, and which numbers fit them.

A difference (one, other, number) says that `one` less `other` is at most the number.
"""

from cellsenough.base.frames import is_name
from cellsenough.base.integers import DIGITS, is_integer


def is_point(value):
    """Whether the value is a point."""
    if isinstance(value, str):
        return _is_place(value)
    if not isinstance(value, tuple) or len(value) != 3:
        return False
    return is_name(value[0]) and isinstance(value[1], str) and _is_place(value[1]) and is_integer(value[2])


def are_differences(value, most):
    """Whether the value is a tuple of at most so many differences."""
    if not isinstance(value, tuple) or len(value) > most:
        return False
    return all([_is_difference(part) for part in value])


def points_of(differences):
    """A list of "" and of all points that stand in the differences: names and new positions, then cells, ascending."""
    stood = {"": True}
    for one, other, _ in differences:
        stood[one] = True
        stood[other] = True
    names = sorted([point for point in stood if isinstance(point, str)])
    return names + sorted([point for point in stood if isinstance(point, tuple)])


def literal_differences(claim):
    """The differences that an atom says, or a not of an atom with "<=" or "<"; None for any other claim."""
    word = claim[0]
    if word in ("pos", "val"):
        one, other = claim[2], claim[3]
        if claim[1] == "==":
            return (_at_most(one, other, 0), _at_most(other, one, 0))
        return (_at_most(one, other, 0 if claim[1] == "<=" else -1),)
    if word == "not" and claim[1][0] in ("pos", "val") and claim[1][1] != "==":
        _, op, one, other = claim[1]
        return (_at_most(other, one, -1 if op == "<=" else 0),)
    return None


def is_ring_of(differences):
    """Whether these differences, in this order, form a ring."""
    if len(differences) == 0:
        return False
    for at, (_, other, _) in enumerate(differences):
        if other != differences[(at + 1) % len(differences)][0]:
            return False
    return sum([number for _, _, number in differences]) < 0


def numbers_or_ring(differences):
    """A dict from all points to integers that fit and None, or None and a ring, as a list of indices."""
    numbers = {point: 0 for point in points_of(differences)}
    lowered_by = {}
    changed = None
    for _ in range(len(numbers)):
        changed = None
        for index, (one, other, number) in enumerate(differences):
            if numbers[one] > numbers[other] + number:
                numbers[one] = numbers[other] + number
                lowered_by[one] = index
                changed = one
        if changed is None:
            return {point: numbers[point] - numbers[""] for point in numbers}, None
    return None, _ring_back_from(differences, lowered_by, changed)


def least_bound(differences, one, other):
    """The least integer that `one` less `other` never exceeds, or None; the differences have no ring."""
    # For each point that hangs on the other one, how much more than it the point can be.
    reached = {other: 0}
    is_changed = True
    while is_changed:
        is_changed = False
        for low, high, number in differences:
            if high in reached and (low not in reached or reached[low] > reached[high] + number):
                reached[low] = reached[high] + number
                is_changed = True
    return reached.get(one)


def _is_place(text):
    """Whether the text is "", a name or a new position."""
    if text == "" or is_name(text):
        return True
    number = text[1:]
    if text[0] != "*" or number == "" or number[0] == "0":
        return False
    return all([digit in DIGITS for digit in number])


def _is_difference(value):
    """Whether the value is a difference."""
    if not isinstance(value, tuple) or len(value) != 3:
        return False
    return is_point(value[0]) and is_point(value[1]) and is_integer(value[2])


def _at_most(one, other, more):
    """The difference that says that one term is at most the other one and so much more."""
    point, other_point = _point_of(one), _point_of(other)
    return (point, other_point, other[-1] - one[-1] + more)


def _point_of(term):
    """The point of a term, of which the term is some more."""
    return term[0] if len(term) == 2 else term[:3]


def _ring_back_from(differences, lowered_by, point):
    """The ring that is found by going back from a point that was lowered too often."""
    # After so many steps back, the point stands in the ring itself.
    for _ in range(len(lowered_by)):
        point = differences[lowered_by[point]][1]
    found = []
    at = point
    while len(found) == 0 or at != point:
        found.append(lowered_by[at])
        at = differences[lowered_by[at]][1]
    return found
