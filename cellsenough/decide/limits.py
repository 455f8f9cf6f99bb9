"""Which questions are small enough to be decided."""

from cellsenough.errors import TooMany
from cellsenough.solve.questions import MAX_MEMBERS

MAX_FEW = 1000


def check_small(question):
    """Refuses questions with too many members, or too great a few."""
    if len(question.members) > MAX_MEMBERS:
        raise TooMany(MAX_MEMBERS)
    if question.few > MAX_FEW:
        raise TooMany(MAX_FEW)


def check_all_small(questions):
    """Refuses the first question that has too many members, or too great a few."""
    for question in questions:
        check_small(question)
