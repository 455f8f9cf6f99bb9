"""The truth of claims in rows of cells and numbers of names.

`rows` is a dict from all arrays to their cells. `numbers` is a dict from the names of positions, lengths, values
and, within an all, its own names to integers, and from "" to 0. All claims here are right ones.
"""

from cellsenough.logic.parts import terms_in


def cell_at(row, position):
    """The cell of a row, or 0 outside of it."""
    return row[position] if 0 <= position < len(row) else 0


def number_at(rows, numbers, term):
    """The integer of a position term or value term."""
    if len(term) == 2:
        return numbers[term[0]] + term[1]
    array, name, shift, more = term
    return cell_at(rows[array], numbers[name] + shift) + more


def is_true(rows, numbers, claim):
    """Whether the claim, guard or body is true."""
    word = claim[0]
    if word in ("pos", "val"):
        return _compares(claim[1], number_at(rows, numbers, claim[2]), number_at(rows, numbers, claim[3]))
    if word == "not":
        return not is_true(rows, numbers, claim[1])
    if word == "all":
        return first_failure(rows, numbers, claim) is None
    # The first true part decides an or, the first false one an and.
    deciding = word == "or"
    for part in claim[1]:
        if is_true(rows, numbers, part) == deciding:
            return deciding
    return not deciding


def first_failure(rows, numbers, claim):
    """The first tuple of integers for the own names of an all for which it is false, or None."""
    places = _places_to_look(rows, numbers, claim)
    return _first_failure_with(rows, dict(numbers), claim, places, ())


def _compares(op, one, other):
    """Whether two integers compare so."""
    if op == "<=":
        return one <= other
    return one < other if op == "<" else one == other


def _first_failure_with(rows, numbers, claim, places, chosen):
    """The first such tuple that begins with the chosen integers, or None. It changes the numbers of own names."""
    _, own, guard, body = claim
    if len(chosen) == len(own):
        is_failing = is_true(rows, numbers, guard) and not is_true(rows, numbers, body)
        return chosen if is_failing else None
    for place in places:
        numbers[own[len(chosen)]] = place
        found = _first_failure_with(rows, numbers, claim, places, (*chosen, place))
        if found is not None:
            return found
    return None


def _places_to_look(rows, numbers, claim):
    """The ascending list of the places that can stand in the first failure of an all.

    These are the least one, the terms in the guard, and the places at which cells that the body reads change. At any
    other place an own name can be one less: the body reads the same cells, and as a guard has neither nots nor "<",
    what was true in it is true still. So a failure with such a place is not the first one, however far apart they are.
    """
    _, own, guard, body = claim
    told = [number_at(rows, numbers, term) for term in terms_in(guard) if term[0] not in own]
    places = [min([-1, *told]), *told]
    read = {term[0]: True for term in terms_in(body) if len(term) == 4 and term[1] in own}
    for array in read:
        places.extend(_changes(rows[array]))
    return sorted(set(places))


def _changes(row):
    """The places that read another number than the place ahead of them."""
    # Outside of the row 0 is read.
    return [place for place, (before, cell) in enumerate(zip((0, *row), (*row, 0))) if before != cell]
