"""Programs with loops, and outlines, which are programs with claims about them."""

from cellsenough.base.checks import check_index
from cellsenough.base.frames import check_frame
from cellsenough.code.rows import are_rows, given_name, places_of, renamed_rows, rows_with
from cellsenough.errors import InvalidClaim, InvalidOperation, InvalidProgram
from cellsenough.logic.shapes import are_claims, check_claims

MAX_ROWS = 24
MAX_LOOPS = 4
MAX_INSIDE = 4
MAX_NOTES = 8


def is_rows(frame, value):
    """Whether the value is rows of a program for the frame."""
    check_frame(frame)
    return are_rows(frame, value, MAX_ROWS, MAX_LOOPS, MAX_INSIDE)


def check_program(program):
    """Refuses what is no program."""
    if not isinstance(program, Program):
        raise InvalidProgram("this is no program")


def check_outline(outline):
    """Refuses what is no outline."""
    if not isinstance(outline, Outline):
        raise InvalidProgram("this is no outline")


class Program:
    """Rows for a frame, which are numbered in the order of their beginnings."""

    def __init__(self, frame, rows):
        check_frame(frame)
        if not are_rows(frame, rows, MAX_ROWS, MAX_LOOPS, MAX_INSIDE):
            raise InvalidProgram("these are no rows of a program")
        self._frame = frame
        self._rows = rows
        places = places_of(rows, 0, None, None)
        self._all_rows = [row for row, _, _ in places]
        self._nexts = [nexts for _, nexts, _ in places]
        loops = [number for number, row in enumerate(self._all_rows) if row[0] == "while"]
        self._loop_rows = tuple(loops)
        self._loops = [None if loop is None else loops.index(loop) for _, _, loop in places]

    @property
    def frame(self):
        """The frame of its rows."""
        return self._frame

    @property
    def rows(self):
        """The tuple of the rows that stand in no others."""
        return self._rows

    @property
    def conditions(self):
        """The tuple of the conditions of all loops."""
        return tuple([self._all_rows[number][1] for number in self._loop_rows])

    @property
    def changed(self):
        """The ascending tuple of the names to which some row gives a number."""
        given = [given_name(row) for row in self._all_rows]
        return tuple(sorted({name for name in given if name is not None}))

    @property
    def loop_rows(self):
        """The tuple of the numbers that the loops have as rows."""
        return self._loop_rows

    def row(self, number):
        """The row with this number, with the rows in it."""
        self._check_number(number)
        return self._all_rows[number]

    def nexts(self, number):
        """The numbers of the rows that can be next behind a row; for a condition, first if it is true, then if not."""
        return self._nexts[number]

    def with_rows(self, number, rows):
        """The program with rows in the place of a row."""
        self._check_number(number)
        if not isinstance(rows, tuple):
            raise InvalidProgram("these are no rows")
        return Program(self._frame, rows_with(self._rows, 0, number, rows))

    def loop_of(self, number):
        """The number of the innermost loop in which a row stands, or None."""
        self._check_number(number)
        return self._loops[number]

    def renamed(self, names):
        """The program with other names."""
        return Program(self._frame.renamed(names), renamed_rows(self._rows, names))

    def _check_number(self, number):
        """Refuses what is no number of a row."""
        check_index(number, len(self._all_rows))

    def __add__(self, other):
        if not isinstance(other, Program) or self._frame != other._frame:
            raise InvalidOperation("this is no program for the frame")
        return Program(self._frame, (*self._rows, *other._rows))

    def __iter__(self):
        return iter(self._all_rows)

    def __len__(self):
        return len(self._all_rows)

    def __eq__(self, other):
        return isinstance(other, Program) and self._frame == other._frame and self._rows == other._rows

    def __str__(self):
        return f"program of {len(self._all_rows)} rows, {len(self._loop_rows)} loops"


class Outline:
    """A program with claims for its beginning, its loops and its end."""

    def __init__(self, program, *, before=(), notes, after=()):
        check_program(program)
        check_claims(program.frame, before, MAX_NOTES)
        if not _are_notes(program, notes):
            raise InvalidClaim("these are not claims for each loop")
        check_claims(program.frame, after, MAX_NOTES)
        self._program = program
        self._before = before
        self._notes = notes
        self._after = after

    @property
    def program(self):
        """The program."""
        return self._program

    @property
    def frame(self):
        """The frame of the program."""
        return self._program.frame

    @property
    def before(self):
        """The claims for the beginning."""
        return self._before

    @property
    def notes(self):
        """The claims for each loop."""
        return self._notes

    @property
    def after(self):
        """The claims for the end."""
        return self._after

    def with_notes(self, loop, claims):
        """The outline with other claims for a loop."""
        check_index(loop, len(self._notes))
        check_claims(self.frame, claims, MAX_NOTES)
        notes = (*self._notes[:loop], claims, *self._notes[loop + 1:])
        return Outline(self._program, before=self._before, notes=notes, after=self._after)

    def __len__(self):
        return len([claim for claims in (self._before, *self._notes, self._after) for claim in claims])

    def __eq__(self, other):
        if not isinstance(other, Outline) or self._program != other._program:
            return False
        return (self._before, self._notes, self._after) == (other._before, other._notes, other._after)

    def __str__(self):
        return f"outline of {len(self._program)} rows, {len(self)} claims"


def _are_notes(program, value):
    """Whether the value is a tuple of claims for each loop of the program."""
    if not isinstance(value, tuple) or len(value) != len(program.loop_rows):
        return False
    return all([are_claims(program.frame, claims, MAX_NOTES) for claims in value])
