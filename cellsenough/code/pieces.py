"""Pieces of outlines: from a loop, or the beginning, to the next loop, or the end."""

from cellsenough.base.frames import MAX_ARRAYS
from cellsenough.code.courses import Course, version_names
from cellsenough.code.program import check_outline
from cellsenough.code.steps import effect_of, with_effect
from cellsenough.code.walks import walk_sizes, walks
from cellsenough.decide.limits import check_all_small
from cellsenough.decide.search import all_follow
from cellsenough.errors import InvalidOperation, InvalidSituation, TooMany
from cellsenough.logic.claims import inside_claim, own_names_for
from cellsenough.solve.members import needs_of
from cellsenough.solve.questions import made_question
from cellsenough.world.situations import Situation, made_situation

MAX_PIECES = 64
MAX_WRITES = 6


def pieces(outline):
    """The tuple of all pieces, by their beginnings, then by their answers."""
    check_outline(outline)
    sizes = walk_sizes(outline.program)
    most = max([writes for _, writes in sizes])
    if len(outline.frame.arrays) + most > MAX_ARRAYS:
        raise InvalidOperation("the frame of a piece would have too many arrays")
    if most > MAX_WRITES:
        raise TooMany(MAX_WRITES)
    if sum([ways for ways, _ in sizes]) > MAX_PIECES:
        raise TooMany(MAX_PIECES)
    claims = [*outline.before, *outline.after, *[claim for notes in outline.notes for claim in notes]]
    versions = version_names(outline.frame, claims, most)
    return tuple([Piece(outline, walk, versions) for walk in walks(outline.program)])


class Piece:
    """A way of an outline, with what is known on it, and what is wanted of it."""

    def __init__(self, outline, walk, versions):
        self._outline = outline
        self._start, self._stop, self._answers, self._trail = walk
        rows = [outline.program.row(number) for number in self._trail]
        written = [row[1] for row in rows if row[0] == "write"]
        more = [(version, outline.frame.length_of(array)) for version, array in zip(versions, written)]
        self._frame = outline.frame.with_names(arrays=tuple(more))
        own = own_names_for(self._frame, ("k",), 1)[0] if written else None
        self._take(Course(self._frame, versions, own), rows)

    def _take(self, course, rows):
        """Takes what the rows come to on a new course."""
        course.said.extend(self.claims)
        answers = list(self._answers)
        for number, row in zip(self._trail, rows):
            course.take(number, row, answers.pop(0) if row[0] in ("if", "while") else None)
        self._facts = tuple(course.said)
        self._asked = course.asked
        self._wanted = [course.claim_at(claim) for claim in self.goals]
        self._ends = course.ends_in(self._outline.frame)

    @property
    def outline(self):
        """The outline that it is a piece of."""
        return self._outline

    @property
    def start(self):
        """The number of the loop at which it begins, or -1."""
        return self._start

    @property
    def stop(self):
        """The number of the loop at which it ends, or -1."""
        return self._stop

    @property
    def answers(self):
        """The answers of the conditions that are asked on it."""
        return self._answers

    @property
    def trail(self):
        """The tuple of the numbers of its rows."""
        return self._trail

    @property
    def frame(self):
        """The frame of the outline and, behind its arrays, the versions."""
        return self._frame

    @property
    def claims(self):
        """The claims at its beginning."""
        return self._outline.before if self._start < 0 else self._outline.notes[self._start]

    @property
    def goals(self):
        """The claims at its end."""
        return self._outline.after if self._stop < 0 else self._outline.notes[self._stop]

    @property
    def facts(self):
        """The claims at its beginning, and what its rows give."""
        return self._facts

    @property
    def ends(self):
        """What all names are at its end, in terms of its beginning."""
        return dict(self._ends)

    def questions(self):
        """The tuple of its questions, each behind its kind."""
        needs = [needs_of(fact, True) for fact in self._facts]
        found = []
        for number, known, ahead, (array, *place) in self._asked:
            given = (*self._facts[:known], *ahead)
            more = [*needs[:known], *[needs_of(claim, True) for claim in ahead]]
            wanted = inside_claim(self._frame, array, tuple(place))
            found.append((("inside", number), made_question(self._frame, given, wanted, more)))
        for index, wanted in enumerate(self._wanted):
            found.append((("goal", index), made_question(self._frame, self._facts, wanted, needs)))
        return tuple(found)

    def goal_questions(self):
        """The tuple of its questions about goals."""
        needs = [needs_of(fact, True) for fact in self._facts]
        return tuple([made_question(self._frame, self._facts, wanted, needs) for wanted in self._wanted])

    def is_right(self):
        """Whether all its questions follow."""
        told = [question for _, question in self.questions()]
        check_all_small(told)
        return all_follow(told)

    def carried(self, situation):
        """("end", situation) or ("fault", row) of a run that takes these answers, or None if it takes others."""
        self._check_situation(situation)
        return self._carried(situation, [])

    def lifted(self, situation):
        """The situation with the cells of all versions."""
        self._check_situation(situation)
        rows = []
        told = self._carried(situation, rows)
        if told is None or told[0] == "fault":
            raise InvalidOperation("this is not carried to the end")
        versions = [array for array, _ in self._frame.arrays[len(self._outline.frame.arrays):]]
        every = {**situation.rows, **dict(zip(versions, rows))}
        return made_situation(self._frame, every, situation.positions, situation.amounts)

    def _check_situation(self, value):
        """Refuses what is no situation of the outline's frame."""
        if not isinstance(value, Situation) or value.frame != self._outline.frame:
            raise InvalidSituation("this is no situation of the outline's frame")

    def _carried(self, situation, written):
        """The same as `carried`. The rows of arrays behind each write are put into the list `written`."""
        now = situation
        answers = list(self._answers)
        for number in self._trail:
            effect = effect_of(now, self._outline.program.row(number))
            if effect is None:
                return ("fault", number)
            if effect[0] == "answer" and effect[1] != answers.pop(0):
                return None
            now = with_effect(now, effect)
            if effect[0] == "cell":
                written.append(now.rows[effect[1]])
        return ("end", now)

    def __eq__(self, other):
        if not isinstance(other, Piece) or self._outline != other._outline:
            return False
        return self._start == other._start and self._answers == other._answers

    def __str__(self):
        start = "start" if self._start < 0 else str(self._start)
        stop = "end" if self._stop < 0 else str(self._stop)
        return f"piece from {start} to {stop}: {len(self._trail)} rows"
