"""What follows from given claims, and an asker that answers by what it is told."""

from cellsenough.base.checks import check_undo
from cellsenough.base.frames import check_frame
from cellsenough.decide.limits import check_small
from cellsenough.decide.search import decided
from cellsenough.errors import InvalidOperation, Refused
from cellsenough.logic.claims import is_claim
from cellsenough.logic.shapes import check_claim
from cellsenough.solve.questions import MAX_GIVEN, Question, check_question
from cellsenough.solve.trees import is_tree

NEVER = ("or", ())


def follows(question):
    """Whether the question follows."""
    return paper(question)[0] == "follows"


def breaking(question):
    """A situation of few cells that breaks the question, or None if it follows."""
    word, shown = paper(question)
    return shown if word == "broken" else None


def paper(question):
    """A situation of few cells that breaks the question, or a tree, as a paper."""
    check_question(question)
    check_small(question)
    return decided(question)


def is_paper(question, value):
    """Whether the value is a paper of the question."""
    check_question(question)
    if not isinstance(value, tuple) or len(value) != 2 or not isinstance(value[0], str):
        return False
    if value[0] == "broken":
        return question.is_broken_by(value[1])
    return value[0] == "follows" and is_tree(question, value[1])


class Asker:
    """Claims that are known, and answers by them."""

    def __init__(self, frame):
        check_frame(frame)
        self._frame = frame
        self._known = ()

    @property
    def known(self):
        """The tuple of the known claims."""
        return self._known

    def tell(self, claim):
        """Makes a claim known, unless no situation has it beside the known ones."""
        check_claim(self._frame, claim)
        # What is asked of the known claims needs room for one more.
        if len(self._known) == MAX_GIVEN - 1:
            raise InvalidOperation("as many claims are known as can be")
        word, shown = paper(self._with(claim))
        if word == "follows":
            raise Refused(shown)
        self._known = (*self._known, claim)
        return True

    def ask(self, claim):
        """Whether the claim follows from what is known, or its not does."""
        check_claim(self._frame, claim)
        if follows(Question(self._frame, self._known, claim)):
            return "yes"
        # The not of the claim could be too deep for a claim; it follows exactly if nothing has the claim, too, and
        # both questions have the same members and the same few.
        return "no" if follows(self._with(claim)) else "open"

    def why(self, claim):
        """The paper of the question whether the claim follows from what is known."""
        check_claim(self._frame, claim)
        return paper(Question(self._frame, self._known, claim))

    def example(self):
        """A situation with all known claims."""
        return breaking(Question(self._frame, self._known, NEVER))

    def undo(self, *, many=1):
        """Makes the last claims unknown and returns them, the last one first."""
        check_undo(many, len(self._known))
        kept = len(self._known) - many
        taken = self._known[kept:]
        self._known = self._known[:kept]
        return taken[::-1]

    def twin(self):
        """An equal asker that goes on by itself."""
        other = Asker(self._frame)
        other._known = self._known
        return other

    def _with(self, claim):
        """The question whether no situation has the known claims and this one."""
        return Question(self._frame, (*self._known, claim), NEVER)

    def __contains__(self, value):
        return is_claim(self._frame, value) and value in self._known

    def __len__(self):
        return len(self._known)

    def __eq__(self, other):
        return isinstance(other, Asker) and self._frame == other._frame and self._known == other._known

    def __str__(self):
        return f"asker with {len(self._known)} claims"
