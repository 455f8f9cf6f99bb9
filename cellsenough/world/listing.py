"""All situations of few cells, in their order, without going through all of them where one is asked for."""

from cellsenough.base.checks import check_index
from cellsenough.base.frames import check_frame
from cellsenough.base.integers import is_integer
from cellsenough.errors import InvalidNumber, TooMany
from cellsenough.logic.claims import names_of
from cellsenough.logic.shapes import check_claim, check_claims
from cellsenough.world.situations import Situation
from cellsenough.world.truth import is_true

MAX_LISTED = 200000
MOST_CELLS = 4
FIRST_POSITION = -1
LEAST = -9
GREATEST = 9


def situations(frame, cells, low, high):
    """A generator of all situations of the span, in their order."""
    _check_span(frame, cells, low, high)
    for rows, numbers in _spanned(frame, cells, low, high):
        yield _situation(frame, rows, numbers)


def count_situations(frame, cells, low, high):
    """How many situations the span has."""
    _check_span(frame, cells, low, high)
    return _many(frame, cells, high - low + 1)


def listed(frame, cells, low, high, index):
    """The situation of the span with this index in the order."""
    _check_span(frame, cells, low, high)
    width = high - low + 1
    check_index(index, _many(frame, cells, width))
    lengths, left = _lengths_at(frame, cells, width, index)
    many_cells = sum([lengths[length] for _, length in frame.arrays])
    # The last things of the order are the last digits of what is left.
    row, left = _last_digits(left, many_cells, width)
    amounts, left = _last_digits(left, len(frame.amounts), width)
    positions, left = _last_digits(left, len(frame.positions), cells - FIRST_POSITION + 1)
    numbers = dict(zip(frame.positions, [digit + FIRST_POSITION for digit in positions]))
    numbers.update(dict(zip(frame.amounts, [digit + low for digit in amounts])))
    rows = _rows_of(frame, lengths, tuple([digit + low for digit in row]))
    return _situation(frame, rows, numbers)


def first_with(frame, claims, cells, low, high):
    """The first situation of the span in which all claims are true, or None."""
    check_frame(frame)
    check_claims(frame, claims, None)
    _check_listed(frame, cells, low, high)
    return _first(frame, Judge(frame, claims, ()), cells, low, high)


def count_with(frame, claims, cells, low, high):
    """In how many situations of the span all claims are true."""
    check_frame(frame)
    check_claims(frame, claims, None)
    _check_listed(frame, cells, low, high)
    judge = Judge(frame, claims, ())
    return len([True for rows, numbers in _spanned(frame, cells, low, high) if judge.takes(rows, numbers)])


def first_breaking(frame, given, wanted, cells, low, high):
    """The first situation of the span in which all given claims are true and the wanted one is false, or None."""
    check_frame(frame)
    check_claims(frame, given, None)
    check_claim(frame, wanted)
    _check_listed(frame, cells, low, high)
    return _first(frame, Judge(frame, given, (wanted,)), cells, low, high)


class Judge:
    """Tells whether some claims are true and some others are false, and remembers what it has worked out.

    A claim is as true or false as it was when all that stands in it is the same, whatever the other names are.
    """

    def __init__(self, frame, right, wrong):
        told = [(claim, True) for claim in right] + [(claim, False) for claim in wrong]
        self._told = [(claim, is_right, names_of(frame, claim), {}) for claim, is_right in told]

    def takes(self, rows, numbers):
        """Whether all claims are as they should be."""
        for claim, is_right, names, remembered in self._told:
            key = tuple([rows[name] if name in rows else numbers[name] for name in names])
            if key not in remembered:
                remembered[key] = is_true(rows, numbers, claim)
            if remembered[key] != is_right:
                return False
        return True


def _first(frame, judge, cells, low, high):
    """The first situation of the span that the judge takes, or None."""
    for rows, numbers in _spanned(frame, cells, low, high):
        if judge.takes(rows, numbers):
            return _situation(frame, rows, numbers)
    return None


def _check_span(frame, cells, low, high):
    """Refuses what is no frame or tells no span."""
    check_frame(frame)
    check_index(cells, MOST_CELLS + 1)
    if not is_integer(low) or not LEAST <= low <= GREATEST:
        raise InvalidNumber(low)
    if not is_integer(high) or not low <= high <= GREATEST:
        raise InvalidNumber(high)


def _check_listed(frame, cells, low, high):
    """Refuses what tells no span, and spans with too many situations."""
    _check_span(frame, cells, low, high)
    if _many(frame, cells, high - low + 1) > MAX_LISTED:
        raise TooMany(MAX_LISTED)


def _situation(frame, rows, numbers):
    """The situation with these rows, and the numbers of positions and values among others."""
    positions = {name: numbers[name] for name in frame.positions}
    return Situation(frame, rows, positions, {name: numbers[name] for name in frame.amounts})


def _tuples(many, low, high):
    """A generator of all tuples of so many integers from low to high, ascending."""
    digits = [low] * many
    while True:
        yield tuple(digits)
        at = many - 1
        while at >= 0 and digits[at] == high:
            digits[at] = low
            at -= 1
        if at < 0:
            return
        digits[at] += 1


def _spanned(frame, cells, low, high):
    """A generator of the rows and the numbers of all names but arrays, as the truth of claims needs them."""
    for told in _tuples(len(frame.lengths), 0, cells):
        lengths = dict(zip(frame.lengths, told))
        many_cells = sum([lengths[length] for _, length in frame.arrays])
        for positions in _tuples(len(frame.positions), FIRST_POSITION, cells):
            for amounts in _tuples(len(frame.amounts), low, high):
                names = (*frame.lengths, *frame.positions, *frame.amounts)
                numbers = {"": 0, **dict(zip(names, (*told, *positions, *amounts)))}
                for row in _tuples(many_cells, low, high):
                    yield _rows_of(frame, lengths, row), numbers


def _rows_of(frame, lengths, row):
    """A dict of the rows of the arrays, which stand one behind the other in one row."""
    rows = {}
    start = 0
    for array, length in frame.arrays:
        rows[array] = row[start:start + lengths[length]]
        start = start + lengths[length]
    return rows


def _power(base, times):
    """The product of so many times the base."""
    result = 1
    for _ in range(times):
        result = result * base
    return result


def _ways(frame, cells, width):
    """For each length, a list of how many ways there are to fill its arrays when it is 0, 1, and so on."""
    told = [length for _, length in frame.arrays]
    return [[_power(width, many * told.count(length)) for many in range(cells + 1)] for length in frame.lengths]


def _many(frame, cells, width):
    """How many situations a span has, where values and cells can have so many integers."""
    many = _power(cells - FIRST_POSITION + 1, len(frame.positions)) * _power(width, len(frame.amounts))
    for ways in _ways(frame, cells, width):
        many = many * sum(ways)
    return many


def _lengths_at(frame, cells, width, index):
    """The lengths of the situation with this index, and its index among those with these lengths."""
    lengths = {}
    left = index
    # How many situations there are with the lengths that are chosen already.
    block = _many(frame, cells, width)
    for length, ways in zip(frame.lengths, _ways(frame, cells, width)):
        block = block // sum(ways)
        chosen = 0
        while left >= block * ways[chosen]:
            left = left - block * ways[chosen]
            chosen += 1
        lengths[length] = chosen
        block = block * ways[chosen]
    return lengths, left


def _last_digits(number, many, base):
    """A tuple of the last digits of a number, so many, and what is left of it without them."""
    digits = []
    for _ in range(many):
        number, digit = divmod(number, base)
        digits.append(digit)
    return tuple(digits[::-1]), number
