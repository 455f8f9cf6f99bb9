"""Rows of programs: which values are some, where they stand, and rows with others in their place."""

from cellsenough.logic.parts import all_parts, place_with, term_with, with_terms
from cellsenough.logic.shapes import MAX_DEPTH, is_right


def are_rows(frame, value, most_rows, most_loops, most_inside):
    """Whether the value is rows for the frame, not too many and not too deep in others."""
    level = [value]
    inside = many = loops = 0
    while level:
        if not all([isinstance(rows, tuple) for rows in level]):
            return False
        found = [row for rows in level for row in rows]
        if len(found) > 0 and inside > most_inside:
            return False
        if not all([_is_row(frame, row) for row in found]):
            return False
        many = many + len(found)
        loops = loops + len([row for row in found if row[0] == "while"])
        level = [rows for row in found for rows in inner_rows(row)]
        inside += 1
    return many <= most_rows and loops <= most_loops


def inner_rows(row):
    """A tuple of the rows that stand in an if or a while."""
    if row[0] == "if":
        return row[2:]
    return row[2:] if row[0] == "while" else ()


def places_of(rows, first, behind, loop):
    """A list of all rows by their numbers, each with the numbers of the rows that can be next, and of its loop.

    The first of the rows has the number `first`; `behind` is what comes behind the last one, or None. For a
    condition, the next row if it is true stands ahead of the next one if it is false. A loop is told by its number as
    a row, or None.
    """
    found = []
    number = first
    for at, row in enumerate(rows):
        following = number + _size(row)
        found.extend(_places_of_row(row, number, following if at < len(rows) - 1 else behind, loop))
        number = following
    return found


def rows_with(rows, first, number, new):
    """The rows with other rows in the place of the one with this number, where the first one has the number `first`."""
    found = []
    at = first
    for row in rows:
        if at == number:
            found.extend(new)
        elif at < number < at + _size(row):
            found.append(_row_with(row, at, number, new))
        else:
            found.append(row)
        at = at + _size(row)
    return tuple(found)


def renamed_rows(rows, names):
    """The rows with their names replaced."""
    terms = {name: (names[name], 0) for name in names}
    return tuple([_renamed_row(row, names, terms) for row in rows])


def given_name(row):
    """The position, value or array to which a row gives a number, or None for an if or a while."""
    return row[1] if row[0] in ("move", "keep", "write") else None


def _is_row(frame, row):
    """Whether the value is a row, but for the rows in it."""
    if not isinstance(row, tuple) or len(row) == 0 or not isinstance(row[0], str):
        return False
    word = row[0]
    if word == "move":
        return len(row) == 3 and row[1] in frame.positions and frame.is_position_term(row[2])
    if word == "keep":
        return len(row) == 3 and row[1] in frame.amounts and frame.is_value_term(row[2])
    if word == "write":
        # The place that is written has to be a cell, as it were with the number 0.
        return len(row) == 5 and frame.is_value_term((*row[1:4], 0)) and frame.is_value_term(row[4])
    if word == "if":
        return len(row) == 4 and _is_condition(frame, row[1])
    return word == "while" and len(row) == 3 and _is_condition(frame, row[1])


def _is_condition(frame, value):
    """Whether the value is a claim without alls that leaves room for a not ahead of it."""
    if not is_right(frame, "claim", (), value, MAX_DEPTH - 1):
        return False
    return not any([part[0] == "all" for part in all_parts(value)])


def _size(row):
    """How many rows a row is, with those in it."""
    return 1 + sum([_size(inner) for rows in inner_rows(row) for inner in rows])


def _places_of_row(row, number, behind, loop):
    """The places of a row and of those in it."""
    if row[0] == "while":
        body = row[2]
        start = number + 1 if body else number
        return [(row, (start, behind), loop), *places_of(body, number + 1, number, number)]
    if row[0] == "if":
        _, _, rows, others = row
        middle = number + 1 + sum([_size(inner) for inner in rows])
        nexts = (number + 1 if rows else behind, middle if others else behind)
        inner = [*places_of(rows, number + 1, behind, loop), *places_of(others, middle, behind, loop)]
        return [(row, nexts, loop), *inner]
    return [(row, (behind,), loop)]


def _row_with(row, at, number, new):
    """A row with other rows in the place of one in it, where the row has the number `at`."""
    first = at + 1
    inner = []
    for rows in inner_rows(row):
        inner.append(rows_with(rows, first, number, new))
        first = first + sum([_size(one) for one in rows])
    return (*row[:2], *inner)


def _renamed_row(row, names, terms):
    """A row with its names replaced."""
    if row[0] in ("if", "while"):
        return (row[0], with_terms(row[1], terms, names), *[renamed_rows(rows, names) for rows in inner_rows(row)])
    given = names.get(row[1], row[1])
    if row[0] == "write":
        return ("write", given, *place_with(row[2], row[3], terms), term_with(row[4], terms, names))
    return (row[0], given, term_with(row[2], terms, names))
