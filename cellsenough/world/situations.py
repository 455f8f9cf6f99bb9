"""Situations: rows for the arrays of a frame, and integers for its positions and values."""

from cellsenough.base.frames import Frame, check_frame
from cellsenough.base.integers import are_integers, is_integer
from cellsenough.errors import InvalidNumber, InvalidOperation, InvalidSituation, InvalidTerm, UnknownName
from cellsenough.logic.shapes import check_claim
from cellsenough.world.truth import cell_at, first_failure, is_true, number_at


def _are_rows(frame, value):
    """Whether the value is a dict of rows for all arrays, as long as their lengths ask for."""
    if not isinstance(value, dict) or len(value) != len(frame.arrays):
        return False
    lengths = {}
    for array, length in frame.arrays:
        if array not in value or not are_integers(value[array]):
            return False
        if lengths.setdefault(length, len(value[array])) != len(value[array]):
            return False
    return True


def _are_numbers(names, value):
    """Whether the value is a dict of integers for all of these names."""
    if not isinstance(value, dict) or len(value) != len(names):
        return False
    return all([name in value and is_integer(value[name]) for name in names])


def _ascending(table):
    """A dict with the same items, its keys ascending."""
    return {key: table[key] for key in sorted(table)}


def _row_text(name, row):
    """The name of an array and its cells."""
    cells = " ".join([str(cell) for cell in row]) or "-"
    return f"{name}={cells}"


def _numbers_text(names, table):
    """The names and their integers, with blanks between them, or a dash if there are none."""
    return " ".join([f"{name}={table[name]}" for name in names]) or "-"


def made_situation(frame, rows, positions, values):
    """The situation with these rows and integers, which are right ones, but can have more digits than passed ones."""
    blank = Situation(Frame((), (), ()), {}, {}, {})
    blank._take(frame, rows, positions, values)
    return blank


class Situation:
    """What the arrays, positions and values of a frame are at one time."""

    def __init__(self, frame, rows, positions, values):
        check_frame(frame)
        if not _are_rows(frame, rows):
            raise InvalidSituation("these are no rows for all arrays")
        if not _are_numbers(frame.positions, positions) or not _are_numbers(frame.amounts, values):
            raise InvalidSituation("these are no integers for all positions and values")
        self._take(frame, rows, positions, values)

    def _take(self, frame, rows, positions, values):
        """Takes right rows, and integers of any length, for all names."""
        self._frame = frame
        self._rows = _ascending(rows)
        self._positions = _ascending(positions)
        self._amounts = _ascending(values)
        self._lengths = _ascending({length: len(rows[array]) for array, length in frame.arrays})
        self._numbers = {"": 0, **self._lengths, **self._positions, **self._amounts}

    @property
    def frame(self):
        """The frame that it is a situation for."""
        return self._frame

    @property
    def rows(self):
        """The cells of each array."""
        return dict(self._rows)

    @property
    def positions(self):
        """The integer of each position."""
        return dict(self._positions)

    @property
    def amounts(self):
        """The integer of each value."""
        return dict(self._amounts)

    @property
    def lengths(self):
        """The integer of each length."""
        return dict(self._lengths)

    def cell(self, array, position):
        """The cell of an array, or 0 outside of it."""
        self._frame.length_of(array)
        if not is_integer(position):
            raise InvalidNumber(position)
        return cell_at(self._rows[array], position)

    def position_at(self, term):
        """The integer of a position term."""
        if not self._frame.is_position_term(term):
            raise InvalidTerm("this is no position term")
        return number_at(self._rows, self._numbers, term)

    def value_at(self, term):
        """The integer of a value term."""
        if not self._frame.is_value_term(term):
            raise InvalidTerm("this is no value term")
        return number_at(self._rows, self._numbers, term)

    def knows(self, claim):
        """Whether the claim, which is a right one, is true."""
        return is_true(self._rows, self._numbers, claim)

    def first_failing(self, claim):
        """The same as `failure` for an all, which is a right one."""
        return first_failure(self._rows, self._numbers, claim)

    def holds(self, claim):
        """Whether the claim is true."""
        check_claim(self._frame, claim)
        return self.knows(claim)

    def failure(self, claim):
        """The first integers for the own names of an all for which it is false, or None."""
        check_claim(self._frame, claim)
        if claim[0] != "all":
            raise InvalidOperation("this is no all")
        return self.first_failing(claim)

    def with_cell(self, array, position, number):
        """The situation with another number in a cell."""
        self._frame.length_of(array)
        if not is_integer(position) or not 0 <= position < len(self._rows[array]):
            raise InvalidNumber(position)
        if not is_integer(number):
            raise InvalidSituation("this is no integer")
        return self.put_cell(array, position, number)

    def with_number(self, name, number):
        """The situation with another integer for a position or value."""
        if name not in self._frame.positions and name not in self._frame.amounts:
            raise UnknownName(name)
        if not is_integer(number):
            raise InvalidSituation("this is no integer")
        return self.put_number(name, number)

    def put_cell(self, array, position, number):
        """The same as `with_cell`, where all is right and the number can be of any length."""
        rows = self.rows
        rows[array] = rows[array][:position] + (number,) + rows[array][position + 1:]
        return made_situation(self._frame, rows, self._positions, self._amounts)

    def put_number(self, name, number):
        """The same as `with_number`, where all is right and the number can be of any length."""
        positions, amounts = self.positions, self.amounts
        changed = positions if name in positions else amounts
        changed[name] = number
        return made_situation(self._frame, self._rows, positions, amounts)

    def for_frame(self, frame):
        """The situation for another frame, whose names are all known here."""
        check_frame(frame)
        if not all([pair in self._frame.arrays for pair in frame.arrays]):
            raise InvalidOperation("an array is none here, or has another length")
        if not all([name in self._positions for name in frame.positions]):
            raise InvalidOperation("a position is none here")
        if not all([name in self._amounts for name in frame.amounts]):
            raise InvalidOperation("a value is none here")
        rows = {array: self._rows[array] for array, _ in frame.arrays}
        positions = {name: self._positions[name] for name in frame.positions}
        return made_situation(frame, rows, positions, {name: self._amounts[name] for name in frame.amounts})

    def __len__(self):
        return len([cell for array in self._rows for cell in self._rows[array]])

    def __eq__(self, other):
        if not isinstance(other, Situation):
            return False
        if self._frame != other._frame or self._rows != other._rows:
            return False
        return self._positions == other._positions and self._amounts == other._amounts

    def __str__(self):
        rows = " ".join([_row_text(array, self._rows[array]) for array, _ in self._frame.arrays]) or "-"
        positions = _numbers_text(self._frame.positions, self._positions)
        return f"{rows} | {positions} | {_numbers_text(self._frame.amounts, self._amounts)}"
