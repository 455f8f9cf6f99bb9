"""The greatest choice of candidates for notes that is carried from loop to loop."""

from cellsenough.base.integers import are_ascending, is_integer
from cellsenough.code.pieces import pieces
from cellsenough.code.program import MAX_NOTES, Outline, are_notes, check_program
from cellsenough.decide.limits import check_all_small
from cellsenough.decide.search import decided
from cellsenough.errors import InvalidClaim
from cellsenough.logic.shapes import check_claims
from cellsenough.solve.trees import are_trees_of
from cellsenough.world.situations import made_situation


def greatest_choice(program, candidates, *, before=()):
    """The greatest carried choice."""
    _check(program, candidates, before)
    _check_pieces(program, candidates, before)
    return _last_choice(program, candidates, before)[0]


def ranks(program, candidates, *, before=()):
    """For each loop the ranks of its candidates, None for those in the greatest carried choice."""
    _check(program, candidates, before)
    _check_pieces(program, candidates, before)
    rounds = {(loop, index): rank for rank, loop, index, _, _ in _last_choice(program, candidates, before)[1]}
    return tuple([tuple([rounds.get((loop, index)) for index in range(len(candidates[loop]))])
                  for loop in range(len(candidates))])


def is_carried(program, candidates, value, *, before=()):
    """Whether the value is a carried choice."""
    _check(program, candidates, before)
    _check_pieces(program, candidates, before)
    if not _is_choice(candidates, value):
        return False
    told = _ending_at_loops(_chosen(program, candidates, before, value))
    questions = [question for _, piece in told for question in piece.goal_questions()]
    check_all_small(questions)
    for question in questions:
        if decided(question)[0] == "broken":
            return False
    return True


def choice_paper(program, candidates, *, before=()):
    """The greatest carried choice, situations that show that the other candidates are dropped, and trees."""
    _check(program, candidates, before)
    _check_pieces(program, candidates, before)
    choice, dropped = _last_choice(program, candidates, before)
    left = _all_of(candidates)
    drops = []
    for _, loop, index, number, situation in dropped:
        # Others of its round can be dropped ahead of it, so there can be fewer facts, and other names of versions.
        question = _question_about(_chosen(program, candidates, before, left), left, loop, index, number)
        drops.append((loop, index, number, question.shrunk(_moved(situation, question.frame))))
        left = _without(left, [(loop, index)])
    told = _ending_at_loops(_chosen(program, candidates, before, choice))
    trees = [tuple([decided(question)[1] for question in piece.goal_questions()]) for _, piece in told]
    return (choice, tuple(drops), tuple(trees))


def is_choice_paper(program, candidates, value, *, before=()):
    """Whether the value is such a tuple."""
    _check(program, candidates, before)
    _check_pieces(program, candidates, before)
    if not isinstance(value, tuple) or len(value) != 3 or not _is_choice(candidates, value[0]):
        return False
    choice, drops, trees = value
    many = sum([len(claims) for claims in candidates]) - sum([len(indices) for indices in choice])
    if not isinstance(drops, tuple) or len(drops) != many:
        return False
    left = _all_of(candidates)
    for drop in drops:
        if not _is_drop(_chosen(program, candidates, before, left), left, choice, drop):
            return False
        left = _without(left, [drop[:2]])
    told = _ending_at_loops(_chosen(program, candidates, before, choice))
    if not isinstance(trees, tuple) or len(trees) != len(told):
        return False
    return all([are_trees_of(piece.goal_questions(), part) for (_, piece), part in zip(told, trees)])


def best_outline(program, candidates, *, before=(), after=()):
    """The outline with the greatest carried choice as notes."""
    _check(program, candidates, before)
    check_claims(program.frame, after, MAX_NOTES)
    _check_pieces(program, candidates, before)
    choice, _ = _last_choice(program, candidates, before)
    return Outline(program, before=before, notes=_claims_of(candidates, choice), after=after)


def _check(program, candidates, before):
    """Refuses what is no program, no candidates for it, or no claims of its frame."""
    check_program(program)
    if not are_notes(program, candidates):
        raise InvalidClaim("these are not candidates for each loop")
    check_claims(program.frame, before, MAX_NOTES)


def _check_pieces(program, candidates, before):
    """Refuses outlines whose pieces cannot be told."""
    pieces(_chosen(program, candidates, before, _all_of(candidates)))


def _all_of(candidates):
    """The choice of all candidates."""
    return tuple([tuple(range(len(claims))) for claims in candidates])


def _without(choice, dropped):
    """The choice without some pairs of a loop and an index."""
    told = [[index for index in indices if (loop, index) not in dropped] for loop, indices in enumerate(choice)]
    return tuple([tuple(indices) for indices in told])


def _claims_of(candidates, choice):
    """The chosen claims for each loop."""
    return tuple([tuple([claims[index] for index in indices]) for claims, indices in zip(candidates, choice)])


def _chosen(program, candidates, before, choice):
    """The outline with the chosen candidates as notes."""
    return Outline(program, before=before, notes=_claims_of(candidates, choice))


def _ending_at_loops(outline):
    """A list of the pieces that end at a loop, each behind its index."""
    return [(number, piece) for number, piece in enumerate(pieces(outline)) if piece.stop >= 0]


def _last_choice(program, candidates, before):
    """The greatest carried choice, and a list of what is dropped, as tuples (rank, loop, index, piece, situation)."""
    choice = _all_of(candidates)
    dropped = []
    # Questions that were found to follow, with what was chosen at the beginning of their pieces.
    held = {}
    rank = 0
    while True:
        lost = _lost(_chosen(program, candidates, before, choice), choice, held)
        if len(lost) == 0:
            return choice, dropped
        dropped.extend([(rank, loop, index, *lost[loop, index]) for loop, index in lost])
        choice = _without(choice, list(lost))
        rank += 1


def _lost(outline, choice, held):
    """A dict from the pairs (loop, index) that a round drops to a piece and a situation that breaks its question."""
    told = [(number, piece, piece.goal_questions()) for number, piece in _ending_at_loops(outline)]
    check_all_small([question for _, _, questions in told for question in questions])
    found = {}
    for number, piece, questions in told:
        start = () if piece.start < 0 else choice[piece.start]
        for index, question in zip(choice[piece.stop], questions):
            pair = (piece.stop, index)
            if pair in found or held.get((number, index)) == start:
                continue
            word, shown = decided(question)
            if word == "broken":
                found[pair] = (number, shown)
            else:
                held[number, index] = start
    return found


def _question_about(outline, left, loop, index, number):
    """The question about a candidate at the end of a piece."""
    return pieces(outline)[number].goal_questions()[left[loop].index(index)]


def _moved(situation, frame):
    """The situation for a frame that differs in the names of versions only."""
    names = [name for name, _ in situation.frame.arrays]
    rows = {array: situation.rows[name] for name, (array, _) in zip(names, frame.arrays)}
    return made_situation(frame, rows, situation.positions, situation.amounts)


def _is_choice(candidates, value):
    """Whether the value is a choice."""
    if not isinstance(value, tuple) or len(value) != len(candidates):
        return False
    return all([are_ascending(indices, len(claims)) for claims, indices in zip(candidates, value)])


def _is_drop(outline, left, choice, value):
    """Whether the value shows that a candidate that is left, and is not in the choice, is to be dropped."""
    if not isinstance(value, tuple) or len(value) != 4:
        return False
    loop, index, number, situation = value
    if not is_integer(loop) or not 0 <= loop < len(left) or not is_integer(index):
        return False
    if index not in left[loop] or index in choice[loop]:
        return False
    told = pieces(outline)
    if not is_integer(number) or not 0 <= number < len(told) or told[number].stop != loop:
        return False
    return told[number].goal_questions()[left[loop].index(index)].is_broken_by(situation)
