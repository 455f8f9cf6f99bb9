"""Whether the notes of an outline are kept, with papers that show it."""

from cellsenough.base.integers import is_integer
from cellsenough.code.pieces import pieces
from cellsenough.code.program import check_outline
from cellsenough.code.runs import first_break
from cellsenough.decide.limits import check_all_small
from cellsenough.decide.search import decided, does_follow
from cellsenough.errors import InvalidSituation
from cellsenough.solve.trees import are_trees_of
from cellsenough.world.situations import Situation

MOST_SITUATIONS = 1000


def is_kept(outline):
    """Whether all pieces of the outline are right."""
    return kept_paper(outline)[0] == "kept"


def broken_questions(outline):
    """The ascending tuple of the pairs (piece, question) of all questions that do not follow."""
    told = _small_questions(outline)
    pairs = [(piece, index) for piece, questions in enumerate(told) for index in range(len(questions))]
    return tuple([(piece, index) for piece, index in pairs if not does_follow(told[piece][index])])


def kept_paper(outline):
    """("broken", piece, question, situation) with a break, or ("kept", trees) with trees of all questions."""
    told = _small_questions(outline)
    trees = []
    for piece, questions in enumerate(told):
        trees.append([])
        for index, question in enumerate(questions):
            word, shown = decided(question)
            if word == "broken":
                return ("broken", piece, index, shown)
            trees[piece].append(shown)
    return ("kept", tuple([tuple(of_piece) for of_piece in trees]))


def is_kept_paper(outline, value):
    """Whether the value is such a paper."""
    told = _questions(outline)
    if not isinstance(value, tuple) or len(value) == 0 or not isinstance(value[0], str):
        return False
    if value[0] == "broken":
        return len(value) == 4 and _is_break(told, value[1:])
    return value[0] == "kept" and len(value) == 2 and _are_trees(told, value[1])


def reached_break(outline, situations, *, most=100):
    """The first index of a situation from which a run breaks a claim of the outline, and what it breaks, or None."""
    check_outline(outline)
    _check_situations(outline.frame, situations)
    for index, situation in enumerate(situations):
        found = first_break(outline, situation, most=most)
        # A situation in which a claim of the beginning is false is none from which runs have to keep anything.
        if found is not None and found[0] != "before":
            return (index, found)
    return None


def _questions(outline):
    """A list with a list of the questions of each piece."""
    return [[question for _, question in piece.questions()] for piece in pieces(outline)]


def _small_questions(outline):
    """The same, where none of them is too large."""
    told = _questions(outline)
    check_all_small([question for questions in told for question in questions])
    return told


def _is_break(told, value):
    """Whether the value is an index of a piece, one of a question of it, and a situation that breaks this."""
    piece, index, situation = value
    if not is_integer(piece) or not 0 <= piece < len(told):
        return False
    if not is_integer(index) or not 0 <= index < len(told[piece]):
        return False
    return told[piece][index].is_broken_by(situation)


def _are_trees(told, value):
    """Whether the value is a tuple with a tuple of trees of the questions of each piece."""
    if not isinstance(value, tuple) or len(value) != len(told):
        return False
    return all([are_trees_of(questions, trees) for questions, trees in zip(told, value)])


def _check_situations(frame, value):
    """Refuses what is no tuple of one to a thousand situations of the frame."""
    if not isinstance(value, tuple) or not 1 <= len(value) <= MOST_SITUATIONS:
        raise InvalidSituation("these are not one to a thousand situations")
    if not all([isinstance(part, Situation) and part.frame == frame for part in value]):
        raise InvalidSituation("these are no situations of the frame")
