"""Whether runs of kept outlines end, shown by measures of their loops."""

from cellsenough.base.integers import is_integer
from cellsenough.code.pieces import pieces
from cellsenough.code.program import check_outline
from cellsenough.decide.limits import check_all_small
from cellsenough.decide.search import all_follow
from cellsenough.errors import InvalidOperation, InvalidTerm
from cellsenough.logic.parts import place_with, terms_in
from cellsenough.solve.questions import Question


def does_end(outline, measures):
    """Whether the outline ends with a measure for each loop."""
    return len(end_faults(outline, measures)) == 0


def end_faults(outline, measures):
    """The ascending tuple of the pairs (loop, word) for what is wrong with the measures."""
    check_outline(outline)
    _check_measures(outline, measures)
    told = pieces(outline)
    asked = [_asked(outline, told, loop, measure) for loop, measure in enumerate(measures)]
    every = [question for lows, turns in asked for question in [*lows, *[one for turn in turns for one in turn[2:]]]]
    check_all_small([question for question in every if question is not None])
    if None in every:
        raise InvalidOperation("a term of a measure would have an invalid number")
    found = [(loop, word) for loop, (lows, turns) in enumerate(asked) for word in _faults(loop, lows, turns)]
    return tuple(sorted(found))


def _check_measures(outline, value):
    """Refuses what is no tuple with a measure for each loop."""
    if not isinstance(value, tuple) or len(value) != len(outline.notes):
        raise InvalidTerm("these are not measures for all loops")
    for measure in value:
        if not isinstance(measure, tuple) or len(measure) != 2:
            raise InvalidTerm("a measure is a pair of position terms")
        if not all([outline.frame.is_position_term(term) for term in measure]):
            raise InvalidTerm("a measure is a pair of position terms")


def _asked(outline, told, loop, measure):
    """The questions about the measure of a loop; None in the place of those in which a number would be too long.

    They are those whether low is at most high, in a list; and a list of tuples (start, stop, low, high, falls) for
    the pieces in the loop, with the questions whether both terms stay, and whether one of them falls.
    """
    low, high = measure
    inside = _loops_within(outline.program, loop)
    lows = []
    turns = []
    for piece in told:
        if piece.start == loop and piece.answers[0]:
            lows.append(_question(piece, ("pos", "<=", low, high)))
        if piece.start in inside and piece.stop in inside:
            turns.append((piece.start, piece.stop, *_turn(piece, low, high)))
    return lows, turns


def _loops_within(program, loop):
    """A list of the numbers of a loop and of all loops in it."""
    found = [loop]
    for other, number in enumerate(program.loop_rows):
        # A loop stands behind the loops that it stands in.
        if program.loop_of(number) in found and other != loop:
            found.append(other)
    return found


def _turn(piece, low, high):
    """The three questions about a measure on a piece."""
    ends = piece.ends
    terms = {name: ends[name] for name in piece.outline.frame.positions}
    low_behind, high_behind = place_with(*low, terms), place_with(*high, terms)
    falls = ("or", (("pos", "<", low, low_behind), ("pos", "<", high_behind, high)))
    wanted = (("pos", "<=", low, low_behind), ("pos", "<=", high_behind, high), falls)
    return [_question(piece, claim) for claim in wanted]


def _question(piece, wanted):
    """The question whether a claim follows from the facts of a piece, or None if a number in it is too long."""
    if not all([is_integer(number) for _, number in terms_in(wanted)]):
        return None
    return Question(piece.frame, piece.facts, wanted)


def _faults(loop, lows, turns):
    """The words for what is wrong with the measure of a loop."""
    words = []
    if not all_follow(lows):
        words.append("low")
    staying = [all_follow([low, high]) for _, _, low, high, _ in turns]
    if False in staying:
        words.append("grows")
    # The ways on which the measure does not fall, as pairs of a beginning and an end.
    level = [turn[:2] for turn, stays in zip(turns, staying) if not stays or not all_follow([turn[4]])]
    if _is_on_a_ring(loop, level):
        words.append("turns")
    return words


def _is_on_a_ring(loop, pairs):
    """Whether the pairs, one behind the other, lead from the loop back to it."""
    reached = [loop]
    for _ in pairs:
        reached = [*reached, *[stop for start, stop in pairs if start in reached and stop not in reached]]
    return len([start for start, stop in pairs if start in reached and stop == loop]) > 0
