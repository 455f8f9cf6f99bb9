"""What follows from given claims, and an asker that answers by what it is told."""

from cellsenough.base.checks import check_undo
from cellsenough.base.frames import check_frame
from cellsenough.decide.limits import check_small
from cellsenough.decide.search import decided, does_follow
from cellsenough.errors import InvalidOperation, Refused
from cellsenough.logic.claims import is_claim
from cellsenough.logic.shapes import check_claim
from cellsenough.solve.questions import MAX_GIVEN, Question, check_question
from cellsenough.solve.trees import is_tree

NEVER = ("or", ())


def follows(question):
    """Whether the question follows."""
    return paper(question)[0] == "follows"


def breaking(question):
    """A situation of few cells that breaks the question, or None if it follows."""
    word, shown = paper(question)
    return shown if word == "broken" else None


def paper(question):
    """A situation of few cells that breaks the question, or a tree, as a paper."""
    check_question(question)
    check_small(question)
    return decided(question)


def is_paper(question, value):
    """Whether the value is a paper of the question."""
    check_question(question)
    if not isinstance(value, tuple) or len(value) != 2 or not isinstance(value[0], str):
        return False
    if value[0] == "broken":
        return question.is_broken_by(value[1])
    return value[0] == "follows" and is_tree(question, value[1])


class Asker:
    """Claims that are known, and answers by them."""

    def __init__(self, frame):
        check_frame(frame)
        # The question whether no situation has all known claims.
        self._question = Question(frame, (), NEVER)
        # Some situation that has them all. It spares searches, and no answer depends on which one it is.
        self._shown = None

    @property
    def known(self):
        """The tuple of the known claims."""
        return self._question.claims

    def tell(self, claim):
        """Makes a claim known, unless no situation has it beside the known ones."""
        check_claim(self._question.frame, claim)
        # What is asked of the known claims needs room for one more.
        if len(self._question) == MAX_GIVEN - 1:
            raise InvalidOperation("as many claims are known as can be")
        question = self._question.with_given(claim)
        check_small(question)
        if not self._is_shown(claim):
            word, shown = decided(question)
            if word == "follows":
                raise Refused(shown)
            self._shown = shown
        self._question = question
        return True

    def ask(self, claim):
        """Whether the claim follows from what is known, or its not does."""
        check_claim(self._question.frame, claim)
        is_shown = self._is_shown(claim)
        question = self._question.wanting(claim)
        check_small(question)
        if (self._shown is None or is_shown) and does_follow(question):
            return "yes"
        # The not of the claim could be too deep for a claim; it follows exactly if nothing has the claim, too, and
        # both questions have the same members and the same few.
        question = self._question.with_given(claim)
        check_small(question)
        return "no" if not is_shown and does_follow(question) else "open"

    def why(self, claim):
        """The paper of the question whether the claim follows from what is known."""
        check_claim(self._question.frame, claim)
        return paper(self._question.wanting(claim))

    def example(self):
        """A situation with all known claims."""
        return breaking(self._question)

    def undo(self, *, many=1):
        """Makes the last claims unknown and returns them, the last one first."""
        check_undo(many, len(self._question))
        taken = []
        for _ in range(many):
            taken.append(self._question.claims[-1])
            self._question = self._question.without(len(self._question) - 1)
        return tuple(taken)

    def twin(self):
        """An equal asker that goes on by itself."""
        other = Asker(self._question.frame)
        other._question = self._question
        other._shown = self._shown
        return other

    def _is_shown(self, claim):
        """Whether a situation is at hand that has the claim beside the known ones."""
        return self._shown is not None and self._shown.knows(claim)

    def __contains__(self, value):
        return is_claim(self._question.frame, value) and value in self._question.claims

    def __len__(self):
        return len(self._question.claims)

    def __eq__(self, other):
        return isinstance(other, Asker) and self._question == other._question

    def __str__(self):
        return f"asker with {len(self._question.claims)} claims"
