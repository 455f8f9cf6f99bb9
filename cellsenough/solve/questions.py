"""Questions: whether a claim follows from given ones."""

from cellsenough.base.checks import check_index
from cellsenough.base.frames import check_frame
from cellsenough.errors import InvalidOperation, InvalidQuestion, InvalidSituation
from cellsenough.logic.claims import is_claim, renamed_claim
from cellsenough.logic.shapes import are_claims, check_claim
from cellsenough.solve.members import laid_rows, member_terms, needs_of, squeezed
from cellsenough.world.situations import Situation, made_situation

MAX_GIVEN = 40
MAX_MEMBERS = 16


def check_question(question):
    """Refuses what is no question."""
    if not isinstance(question, Question):
        raise InvalidQuestion("this is no question")


def made_question(frame, given, wanted, needs):
    """The question with these claims, which are right ones, where `needs` are those of the given claims, in order."""
    blank = Question(frame, (), ("and", ()))
    blank._take(given, wanted, needs)
    return blank


class Question:
    """Given claims, and a wanted one, which follows or does not."""

    def __init__(self, frame, given, wanted):
        check_frame(frame)
        if not are_claims(frame, given, MAX_GIVEN) or not is_claim(frame, wanted):
            raise InvalidQuestion("these are not at most forty given claims and a wanted one")
        self._frame = frame
        self._take(given, wanted, [needs_of(claim, True) for claim in given])

    def _take(self, given, wanted, needs):
        """Takes right claims, with the needs of the given ones."""
        self._claims = given
        self._goal = wanted
        self._needs = needs
        every = [*needs, needs_of(wanted, False)]
        self._negative = [claim for _, negative, _ in every for claim in negative]
        many = sum([len(claim[1]) for claim in self._negative])
        self._fresh = tuple([f"*{number + 1}" for number in range(many)])
        terms = member_terms(self._frame, every)
        self._members = tuple(sorted([*terms, *[(name, 0) for name in self._fresh]]))
        self._widest = 2 * max([greatest for _, _, greatest in every]) + 1
        self._few = (len(self._frame.positions) + len(self._frame.lengths) + many) * self._widest

    @property
    def frame(self):
        """The frame of its claims."""
        return self._frame

    @property
    def claims(self):
        """The given claims."""
        return self._claims

    @property
    def goal(self):
        """The wanted claim."""
        return self._goal

    @property
    def members(self):
        """The ascending tuple of its members."""
        return self._members

    @property
    def fresh(self):
        """The tuple of its new positions."""
        return self._fresh

    @property
    def few(self):
        """How long arrays have to be looked at."""
        return self._few

    @property
    def facts(self):
        """What is true in each situation that breaks it."""
        lengths = [("pos", "<=", ("", 0), (length, 0)) for length in self._frame.lengths]
        return (*lengths, *self._claims, ("not", self._goal))

    def is_broken_by(self, value):
        """Whether the value is a situation that breaks it."""
        if not isinstance(value, Situation) or value.frame != self._frame:
            return False
        for claim in self._claims:
            if not value.knows(claim):
                return False
        return not value.knows(self._goal)

    def new_numbers(self, situation):
        """The integers for the new positions in a situation."""
        self._check_situation(situation)
        return self._new_numbers(situation)

    def _new_numbers(self, situation):
        """The same as `new_numbers`, for a situation that is a right one."""
        found = []
        for claim in self._negative:
            failing = situation.first_failing(claim)
            found.extend([0] * len(claim[1]) if failing is None else failing)
        return tuple(found)

    def laid(self, situation):
        """The situation in which cells change at members only."""
        self._check_situation(situation)
        numbers = self._numbers_in(situation)
        rows = laid_rows(self._frame, situation.rows, self._members, numbers, numbers)
        return made_situation(self._frame, rows, situation.positions, situation.amounts)

    def small(self, situation):
        """A situation of few cells that breaks it, made of one that does."""
        self._check_situation(situation)
        if not self.is_broken_by(situation):
            raise InvalidOperation("this does not break the question")
        return self.shrunk(situation)

    def shrunk(self, situation):
        """The same as `small`, for a situation that surely breaks it."""
        old = self._numbers_in(situation)
        # Terms differ by less than the widest gap, so they stay in their order, and equal if they were.
        new = squeezed(old, self._widest)
        rows = laid_rows(self._frame, situation.rows, self._members, old, new)
        positions = {name: new[name] for name in self._frame.positions}
        return made_situation(self._frame, rows, positions, situation.amounts)

    def with_given(self, claim):
        """The question with one more given claim, the last one."""
        check_claim(self._frame, claim)
        if len(self._claims) == MAX_GIVEN:
            raise InvalidOperation("there are forty given claims already")
        return made_question(self._frame, (*self._claims, claim), self._goal, [*self._needs, needs_of(claim, True)])

    def without(self, index):
        """The question without a given claim."""
        check_index(index, len(self._claims))
        kept = self._needs[:index] + self._needs[index + 1:]
        return made_question(self._frame, self._claims[:index] + self._claims[index + 1:], self._goal, kept)

    def wanting(self, claim):
        """The question with another wanted claim."""
        check_claim(self._frame, claim)
        return made_question(self._frame, self._claims, claim, self._needs)

    def renamed(self, names):
        """The question with other names."""
        frame = self._frame.renamed(names)
        given = tuple([renamed_claim(self._frame, claim, names) for claim in self._claims])
        return Question(frame, given, renamed_claim(self._frame, self._goal, names))

    def _check_situation(self, value):
        """Refuses what is no situation for an equal frame."""
        if not isinstance(value, Situation) or value.frame != self._frame:
            raise InvalidSituation("this is no situation for the frame")

    def _numbers_in(self, situation):
        """The integers of all positions, lengths and new positions, and of ""."""
        new = dict(zip(self._fresh, self._new_numbers(situation)))
        return {"": 0, **situation.positions, **situation.lengths, **new}

    def __len__(self):
        return len(self._claims)

    def __eq__(self, other):
        if not isinstance(other, Question) or self._frame != other._frame:
            return False
        return self._claims == other._claims and self._goal == other._goal

    def __str__(self):
        return f"question of {len(self._claims)} given, {len(self._members)} members, few {self._few}"
