"""Runs of programs, step by step."""

from cellsenough.base.checks import check_index, check_undo
from cellsenough.code.program import check_outline, check_program
from cellsenough.code.steps import effect_of, undoing, with_effect
from cellsenough.errors import InvalidOperation, InvalidSituation
from cellsenough.world.situations import Situation

MOST_STEPS = 10000


def outcome(program, situation, *, most=100):
    """How a run goes on within so many steps."""
    run = Run(program, situation)
    _check_most(most)
    run.go_on(most=most)
    if run.is_done():
        return ("done", run.situation, run.steps)
    if run.is_faulty():
        return ("fault", run.next_row, run.steps)
    return ("long", run.situation, run.steps)


def first_break(outline, situation, *, most=100):
    """The first claim of the outline that is false in a run, or its fault, within so many steps, or None."""
    check_outline(outline)
    run = Run(outline.program, situation)
    _check_most(most)
    index = _first_false(outline.before, situation)
    if index is not None:
        return ("before", index)
    visits = [0 for _ in outline.notes]
    found = _break_at(outline, run, visits)
    while found is None and run.steps < most and not run.is_done():
        number = run.go()
        if number in outline.program.loop_rows:
            visits[outline.program.loop_rows.index(number)] += 1
        found = _break_at(outline, run, visits)
    return found


class Run:
    """A run of a program from a situation on."""

    def __init__(self, program, situation):
        check_program(program)
        if not isinstance(situation, Situation) or situation.frame != program.frame:
            raise InvalidSituation("this is no situation of the frame")
        self._program = program
        self._first = situation
        # For each step its row, and what would take it back.
        self._history = []
        self._stand(situation, 0 if len(program) > 0 else None)

    @property
    def situation(self):
        """The situation as it is now."""
        return self._situation

    @property
    def next_row(self):
        """The number of the next row, or None if the run is done."""
        return self._next

    @property
    def steps(self):
        """How many steps were done."""
        return len(self._history)

    @property
    def trail(self):
        """The tuple of the numbers of the rows that were done."""
        return tuple([number for number, _ in self._history])

    def is_done(self):
        """Whether no row is next."""
        return self._next is None

    def is_faulty(self):
        """Whether the next row has a fault."""
        return self._next is not None and self._effect is None

    def go(self):
        """Does a step, and returns the number of its row."""
        if self._effect is None:
            raise InvalidOperation("the run is done, or has a fault")
        number, effect = self._next, self._effect
        self._history.append((number, undoing(self._situation, effect)))
        nexts = self._program.nexts(number)
        # Behind a condition that is false, the second one of the next rows is meant.
        self._stand(with_effect(self._situation, effect), nexts[1] if effect == ("answer", False) else nexts[0])
        return number

    def go_on(self, *, most=100):
        """Does steps until the run is done or has a fault, at most so many, and returns how many."""
        _check_most(most)
        for many in range(most):
            if self._effect is None:
                return many
            self.go()
        return most

    def undo(self, *, many=1):
        """Takes the last steps back, and returns the numbers of their rows, the last one first."""
        check_undo(many, len(self._history))
        taken = []
        situation = self._situation
        for _ in range(many):
            number, effect = self._history.pop()
            situation = with_effect(situation, effect)
            taken.append(number)
        if taken:
            self._stand(situation, taken[-1])
        return tuple(taken)

    def twin(self):
        """An equal run that goes on by itself."""
        other = Run(self._program, self._first)
        other._history = list(self._history)
        other._stand(self._situation, self._next)
        return other

    def _stand(self, situation, number):
        """Stands in this situation ahead of the row with this number, or at the end for None."""
        self._situation = situation
        self._next = number
        # What the next row does; None if it has a fault, or there is none.
        self._effect = None if number is None else effect_of(situation, self._program.row(number))

    def __len__(self):
        return len(self._history)

    def __eq__(self, other):
        if not isinstance(other, Run) or self._program != other._program or self._first != other._first:
            return False
        return len(self._history) == len(other._history)

    def __str__(self):
        if self._next is None:
            return f"run: done, {len(self._history)} steps"
        word = " fault," if self._effect is None else ""
        return f"run at {self._next}:{word} {len(self._history)} steps"


def _check_most(most):
    """Refuses what is no number of steps."""
    check_index(most, MOST_STEPS + 1)


def _first_false(claims, situation):
    """The index of the first claim that is false in the situation, or None."""
    for index, claim in enumerate(claims):
        if not situation.knows(claim):
            return index
    return None


def _break_at(outline, run, visits):
    """What is broken at this point of a run, or None; `visits` has the number of askings for each loop."""
    if run.is_done():
        index = _first_false(outline.after, run.situation)
        return None if index is None else ("after", index)
    loops = outline.program.loop_rows
    if run.next_row in loops:
        loop = loops.index(run.next_row)
        index = _first_false(outline.notes[loop], run.situation)
        if index is not None:
            return ("note", loop, index, visits[loop])
    return ("fault", run.next_row) if run.is_faulty() else None
