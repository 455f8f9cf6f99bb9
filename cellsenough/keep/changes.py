"""Changes of programs: rows that work alike, rows in another order, and loops with a turn ahead of them."""

from cellsenough.base.checks import check_index
from cellsenough.code.program import Outline, Program, check_outline, is_rows
from cellsenough.errors import InvalidOperation, InvalidProgram, TooMany
from cellsenough.keep.alike import parting_of
from cellsenough.logic.parts import all_parts
from cellsenough.logic.shapes import check_claims
from cellsenough.solve.members import position_terms

MOST_GIVEN = 6
MOST_CHANGES = 2
MOST_ROWS = 8
MOST_ARRAYS = 8
MOST_ATOMS = 8
GREATEST_PLACE = 999
GREATEST_NUMBER = 10 ** 50 - 1
GIVING = ("move", "keep", "write")


def do_work_alike(frame, one, other, given=()):
    """Whether two tuples of rows without loops work alike from each situation with the given claims."""
    return _parting(frame, one, other, given) is None


def parting_rows(frame, one, other, given=()):
    """A situation with the given claims from which two tuples of rows do not work alike."""
    found = _parting(frame, one, other, given)
    if found is None:
        raise InvalidOperation("the rows work alike")
    return found


def do_commute(frame, one, other, given=()):
    """Whether two rows work alike in both orders."""
    for row in (one, other):
        if not is_rows(frame, (row,)) or row[0] not in GIVING:
            raise InvalidProgram("this is no move, keep or write")
    return _parting(frame, (one, other), (other, one), given) is None


def unrolled(outline, loop):
    """The outline in which a turn of a loop stands ahead of it."""
    check_outline(outline)
    program = outline.program
    check_index(loop, len(program.loop_rows))
    if loop in [program.loop_of(number) for number in program.loop_rows]:
        raise InvalidOperation("there is a loop in this one")
    number = program.loop_rows[loop]
    whole = program.row(number)
    _, condition, rows = whole
    changed = program.with_rows(number, (("if", condition, (*rows, whole), ()),))
    return Outline(changed, before=outline.before, notes=outline.notes, after=outline.after)


def _parting(frame, one, other, given):
    """A situation with the given claims from which two tuples of rows do not work alike, or None."""
    programs = [_without_loops(frame, one), _without_loops(frame, other)]
    check_claims(frame, given, MOST_GIVEN)
    for program in programs:
        words = [row[0] for row in program]
        if words.count("write") > MOST_CHANGES or words.count("if") > MOST_CHANGES:
            raise TooMany(MOST_CHANGES)
    _check_sizes(frame, programs, given)
    return parting_of(*programs, given, MOST_CHANGES)


def _without_loops(frame, rows):
    """The program with these rows, which have to be without loops."""
    program = Program(frame, rows)
    if len(program.conditions) > 0:
        raise InvalidProgram("there is a loop in the rows")
    return program


def _check_sizes(frame, programs, given):
    """Refuses what is too great to be looked at."""
    if len(frame.arrays) > MOST_ARRAYS or max([len(program) for program in programs]) > MOST_ROWS:
        raise InvalidOperation("there are too many rows or arrays")
    rows = [row for program in programs for row in program]
    conditions = [_atoms(row[1]) for row in rows if row[0] == "if"]
    if max([0, *[len(atoms) for atoms in conditions]]) > MOST_ATOMS:
        raise InvalidOperation("there are too many atoms in a condition")
    atoms = [atom for told in conditions for atom in told] + [_atom_of(row) for row in rows if row[0] != "if"]
    told = [*atoms, *[atom for claim in given for atom in _atoms(claim)]]
    if max([0, *[abs(number) for atom in told for _, number in position_terms(atom)]]) > GREATEST_PLACE:
        raise InvalidOperation("a position in the rows or the given claims is too great")
    if max([0, *[abs(term[-1]) for atom in atoms for term in atom[2:]]]) > GREATEST_NUMBER:
        raise InvalidOperation("an integer in the rows is too great")


def _atoms(claim):
    """A list of the atoms that stand in a claim."""
    return [part for part in all_parts(claim) if part[0] in ("pos", "val")]


def _atom_of(row):
    """An atom with the terms of a move, a keep or a write."""
    if row[0] == "move":
        return ("pos", "==", row[2], row[2])
    written = (*row[1:4], 0) if row[0] == "write" else row[2]
    return ("val", "==", written, row[-1])
