"""What the rows on a way come to, in terms of its beginning."""

from cellsenough.base.frames import LETTERS
from cellsenough.base.integers import is_integer
from cellsenough.errors import InvalidOperation
from cellsenough.logic.parts import all_parts, place_with, term_with, terms_in, with_terms
from cellsenough.solve.questions import MAX_GIVEN


def version_names(frame, claims, many):
    """A list of so many names for versions of arrays, none of them an own name of the claims."""
    own = {name: True for claim in claims for part in all_parts(claim) if part[0] == "all" for name in part[1]}
    told = [f"w{end}" for end in LETTERS]
    free = [name for name in told if name not in frame and name not in own]
    if len(free) < many:
        longer = [f"{name}{end}" for name in told for end in LETTERS]
        free.extend([name for name in longer if name not in frame and name not in own])
    if len(free) < many:
        raise InvalidOperation("no name for a version is left")
    return free[:many]


def asked_in(claim, ahead):
    """A list of the cells that a condition asks, in their order, each with the claims that are true if it is asked.

    These are the ones in `ahead` and those that come of the parts ahead of the cell.
    """
    if claim[0] == "val":
        return [(ahead, term[:3]) for term in claim[2:] if len(term) == 4]
    if claim[0] == "not":
        return asked_in(claim[1], ahead)
    found = []
    if claim[0] in ("and", "or"):
        for part in claim[1]:
            found.extend(asked_in(part, ahead))
            ahead = (*ahead, part if claim[0] == "and" else ("not", part))
    return found


class Course:
    """The rows of a way, taken one after the other: what they say, which cells they ask, and what they give."""

    def __init__(self, frame, versions, own):
        # The frame has all versions, which are the arrays behind the writes, in their order. `own` is the own name of
        # what writes give.
        self.basis = frame
        # What positions and values were given last, and the newest versions of arrays.
        self.given = {}
        self.newest = {}
        self.said = []
        # Tuples (number of the row, how much was said ahead of it, claims that are true if it is asked, cell).
        self.asked = []
        self._versions = list(versions)
        self._own = own

    def term_at(self, term):
        """A term as it is here, in terms of the beginning."""
        return _checked(term_with(term, self.given, self.newest))

    def claim_at(self, claim):
        """A claim as it is here, in terms of the beginning."""
        result = with_terms(claim, self.given, self.newest)
        for term in terms_in(result):
            _checked(term)
        return result

    def ends_in(self, frame):
        """A dict from all positions, values and arrays of a frame to what they are here, its keys ascending."""
        arrays = [array for array, _ in frame.arrays]
        told = {name: self.given.get(name, (name, 0)) for name in (*frame.positions, *frame.amounts)}
        told.update({array: self.newest.get(array, array) for array in arrays})
        return {name: told[name] for name in sorted(told)}

    def take(self, number, row, answer):
        """Takes the row with this number; a condition with its answer."""
        if row[0] in ("if", "while"):
            self._take_condition(number, row[1], answer)
        elif row[0] == "write":
            self._take_write(number, row)
        else:
            self._ask_term(number, row[2])
            self.given[row[1]] = self.term_at(row[2])

    def _ask(self, number, ahead, cell):
        """Takes in that a row asks a cell."""
        if len(self.said) + len(ahead) > MAX_GIVEN:
            raise InvalidOperation("there is too much to be given for a cell")
        told = tuple([self.claim_at(claim) for claim in ahead])
        self.asked.append((number, len(self.said), told, self.term_at((*cell, 0))[:3]))

    def _ask_term(self, number, term):
        """Takes in that a row asks the cell of a value term, if it is one."""
        if len(term) == 4:
            self._ask(number, (), term[:3])

    def _take_condition(self, number, claim, answer):
        """Takes a condition."""
        for ahead, cell in asked_in(claim, ()):
            self._ask(number, ahead, cell)
        here = self.claim_at(claim)
        self.said.append(here if answer else ("not", here))

    def _take_write(self, number, row):
        """Takes a write."""
        _, array, name, shift, term = row
        self._ask_term(number, term)
        self._ask(number, (), (array, name, shift))
        before = self.newest.get(array, array)
        after = self._versions.pop(0)
        place = place_with(name, shift, self.given)
        low, high = _checked((place[0], place[1] - 1)), _checked((place[0], place[1] + 1))
        self.said.append(("val", "==", (after, *place, 0), self.term_at(term)))
        here = (self._own, 0)
        guard = ("or", (("pos", "<=", here, low), ("pos", "<=", high, here)))
        self.said.append(("all", (self._own,), guard, ("val", "==", (after, *here, 0), (before, *here, 0))))
        self.newest[array] = after


def _checked(term):
    """The term, if its numbers have at most sixty digits."""
    if not all([is_integer(part) for part in term if not isinstance(part, str)]):
        raise InvalidOperation("a number of a term would be too long")
    return term
