"""Guesses: numbers for all names that agree with what is known of them, and rows of cells beside them."""

from cellsenough.base.integers import LIMIT, is_integer

TRIES = 200


def guessed_places(bounds, names, lengths, cells):
    """A dict of numbers for "", the names and the lengths that fit the bounds.

    Cells are read at places that differ as far as this is easy, and lie inside of long arrays, as then nothing more
    is asked of them.
    """
    shifts = {}
    for _, name, shift in cells:
        shifts.setdefault(name, {})[shift] = True
    numbers = {"": 0}
    taken = {shift: True for shift in shifts.get("", {})}
    for name in names:
        low, high = bounds.limits(numbers, name)
        numbers[name] = _free_number(low, high, list(shifts.get(name, {})), taken)
        for shift in shifts.get(name, {}):
            taken[numbers[name] + shift] = True
    behind = 1 + max([0, *taken])
    for length in lengths:
        low, high = bounds.limits(numbers, length)
        least = behind if low is None or low < behind else low
        numbers[length] = least if high is None or least <= high else high
    return numbers


def _free_number(low, high, shifts, taken):
    """A number from low to high at which no place is taken, or at least one that is possible."""
    first = 0 if low is None or low < 0 else low
    if high is not None and high < first:
        first = high
    for more in range(TRIES):
        number = first + more
        if high is not None and number > high:
            break
        if not any([number + shift in taken for shift in shifts]):
            return number
    for less in range(TRIES):
        number = first - less
        if low is not None and number < low:
            break
        if not any([number + shift in taken for shift in shifts]):
            return number
    return first


def add_equalities(bounds, frame, numbers):
    """Adds that cells at equal places are equal, and those outside are 0.

    If this cannot be, a list of tags is returned: those of the ring, where ("equal", one, other) and ("zero", cell)
    stand for what was added.
    """
    firsts = {}
    for cell in [point for point in bounds.points() if isinstance(point, tuple)]:
        array, name, shift = cell
        place = numbers[name] + shift
        if 0 <= place < numbers[frame.length_of(array)]:
            other = firsts.setdefault((array, place), cell)
            found = _add_equality(bounds, cell, other, ("equal", cell, other))
        else:
            found = _add_equality(bounds, cell, "", ("zero", cell))
        if found is not None:
            return found
    return None


def guessed_values(bounds, frame, numbers):
    """A dict of numbers for "", values and cells that fit the bounds, of at most sixty digits where there are such."""
    values = _small_values(bounds, frame, numbers)
    if all([is_integer(values[point]) for point in values]):
        return values
    mark = bounds.mark()
    fits = [_add_limits(bounds, point) for point in values]
    short = _small_values(bounds, frame, numbers) if all(fits) else values
    bounds.back_to(mark)
    return short


def guessed_rows(frame, numbers, values):
    """The rows of all arrays: cells that are not known are like the next known one on their left, or on their right."""
    known = {array: {} for array, _ in frame.arrays}
    for point in values:
        if isinstance(point, tuple):
            known[point[0]][numbers[point[1]] + point[2]] = values[point]
    return {array: _filled(known[array], numbers[length]) for array, length in frame.arrays}


def _small_values(bounds, frame, numbers):
    """Numbers that fit the bounds, each near to 0 or to that of the cell ahead of it."""
    values = {"": 0}
    for name in frame.amounts:
        values[name] = _nearest(bounds, values, name, 0)
    cells = [point for point in bounds.points() if isinstance(point, tuple)]
    before = {}
    for _, cell in sorted([((cell[0], numbers[cell[1]] + cell[2]), cell) for cell in cells]):
        values[cell] = _nearest(bounds, values, cell, before.get(cell[0], 0))
        before[cell[0]] = values[cell]
    return values


def _add_limits(bounds, point):
    """Adds that a point has at most sixty digits; whether this can be."""
    for one, other in ((point, ""), ("", point)):
        if bounds.add(one, other, LIMIT - 1, None) is not None:
            return False
    return True


def _filled(known, length):
    """A row of this length with some known cells."""
    places = [place for place in sorted(known) if 0 <= place < length]
    if len(places) == 0:
        return (0,) * length
    row = [known[places[0]]] * places[0]
    for place, ahead in zip(places, [*places[1:], length]):
        row.extend([known[place]] * (ahead - place))
    return tuple(row)


def _add_equality(bounds, one, other, tag):
    """Adds that two points are equal; the tags of a ring if they cannot be."""
    if one == other:
        return None
    found = bounds.add(one, other, 0, tag)
    return bounds.add(other, one, 0, tag) if found is None else found


def _nearest(bounds, values, point, wanted):
    """The number that the point can have beside the others that is nearest to the wanted one."""
    low, high = bounds.limits(values, point)
    if low is not None and wanted < low:
        return low
    return high if high is not None and wanted > high else wanted
