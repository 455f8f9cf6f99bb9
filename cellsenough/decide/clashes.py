"""What to do where cells that should be equal in a guess, or 0, cannot be."""

from cellsenough.decide.forms import form_of, verdict
from cellsenough.solve.nodes import compared


def clash_of(branch, tags, numbers):
    """What to do about one of the guessed equalities among the tags of a ring.

    It is the step of a node, as a tuple (what, uses, claims), or ("apart", one, other) with two terms to be compared.
    """
    best = None
    for tag in _merged(tags):
        found = _zero(branch, tag[1], numbers) if tag[0] == "zero" else _equal(branch, tag[1], tag[2])
        if found[0] != "apart":
            return found
        verdicts = [verdict(form_of(claim), branch.bounds) for claim in compared(found[1], found[2])]
        many = verdicts.count(None)
        if best is None or many < best[0]:
            best = (many, found)
    return best[1]


def _merged(tags):
    """The guessed equalities among the tags, two that meet at one cell taken together."""
    found = []
    for tag in tags:
        is_meeting = len(found) > 0 and tag[0] == "equal" and found[-1][0] == "equal" and found[-1][2] == tag[2]
        if is_meeting and found[-1][1] != tag[1]:
            found[-1] = ("equal", found[-1][1], tag[1])
        else:
            found.append(tag)
    return [tag for tag in found if tag[0] in ("equal", "zero")]


def _equal(branch, one, other):
    """What to do about two cells at equal places."""
    first, second = one[1:], other[1:]
    for left, right in ((first, second), (second, first)):
        fact = branch.seen(("pos", "==", left, right))
        if fact is not None:
            claim = ("val", "==", (one[0], *left, 0), (one[0], *right, 0))
            return (("same", one[0], fact), [fact], [claim])
    return ("apart", first, second)


def _zero(branch, cell, numbers):
    """What to do about a cell outside of its array."""
    array, place = cell[0], cell[1:]
    length = branch.basis.length_of(array)
    before, start = (length, -1), ("", 0)
    is_before = numbers[place[0]] + place[1] < 0
    if place == start:
        return _zero_at_start(branch, array, length)
    pair = (place, start) if is_before else (before, place)
    fact = branch.seen(("pos", "<", *pair))
    if fact is None:
        return ("apart", *pair)
    return (("outside", array, fact), [fact], [("val", "==", (array, *place, 0), start)])


def _zero_at_start(branch, array, length):
    """What to do about the first cell of an array that has no cells.

    That the cell is outside would be said by a fact that is taken as saying this of the cell ahead of the length; so
    it is said of the cell at the length, which is the same one.
    """
    start, end, before = ("", 0), (length, 0), (length, -1)
    amounts = branch.bounds["val"]
    here, there = (array, *start), (array, *end)
    if amounts.bound(here, there) != 0 or amounts.bound(there, here) != 0:
        return _equal(branch, there, here)
    fact = branch.seen(("pos", "<", before, end))
    if fact is None:
        return ("apart", before, end)
    return (("outside", array, fact), [fact], [("val", "==", (*there, 0), start)])
