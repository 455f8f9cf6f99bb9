"""The greatest choice of candidates for notes that is carried from loop to loop.

The outline with all candidates as notes stands here for a program, its candidates and the claims of its beginning.
"""

from cellsenough.base.integers import are_ascending, is_integer
from cellsenough.code.pieces import pieces
from cellsenough.code.program import MAX_NOTES, Outline
from cellsenough.decide.limits import check_all_small
from cellsenough.decide.search import all_follow, decided
from cellsenough.logic.shapes import check_claims
from cellsenough.solve.trees import are_trees_of
from cellsenough.world.situations import made_situation


def greatest_choice(program, candidates, *, before=()):
    """The greatest carried choice."""
    return _last_choice(Outline(program, before=before, notes=candidates))[0]


def ranks(program, candidates, *, before=()):
    """For each loop the ranks of its candidates, None for those in the greatest carried choice."""
    _, dropped = _last_choice(Outline(program, before=before, notes=candidates))
    rounds = {(loop, index): rank for rank, loop, index, _, _ in dropped}
    return tuple([tuple([rounds.get((loop, index)) for index in range(len(claims))])
                  for loop, claims in enumerate(candidates)])


def is_carried(program, candidates, value, *, before=()):
    """Whether the value is a carried choice."""
    whole = Outline(program, before=before, notes=candidates)
    # Also for a choice with fewer claims, the pieces of the whole have to be right ones.
    pieces(whole)
    if not _is_choice(whole, value):
        return False
    questions = [question for _, piece in _ending_at_loops(whole, value) for question in piece.goal_questions()]
    check_all_small(questions)
    return all_follow(questions)


def choice_paper(program, candidates, *, before=()):
    """The greatest carried choice, situations that show that the other candidates are dropped, and trees."""
    whole = Outline(program, before=before, notes=candidates)
    choice, dropped = _last_choice(whole)
    left = _all_of(whole)
    drops = []
    for _, loop, index, number, situation in dropped:
        # Others of its round can be dropped ahead of it, so there can be fewer facts, and other names of versions.
        question = pieces(_chosen(whole, left))[number].goal_questions()[left[loop].index(index)]
        drops.append((loop, index, number, question.shrunk(_moved(situation, question.frame))))
        left = _without(left, [(loop, index)])
    told = [piece.goal_questions() for _, piece in _ending_at_loops(whole, choice)]
    trees = [tuple([decided(question)[1] for question in questions]) for questions in told]
    return (choice, tuple(drops), tuple(trees))


def is_choice_paper(program, candidates, value, *, before=()):
    """Whether the value is such a tuple."""
    whole = Outline(program, before=before, notes=candidates)
    pieces(whole)
    if not isinstance(value, tuple) or len(value) != 3 or not _is_choice(whole, value[0]):
        return False
    choice, drops, trees = value
    if not isinstance(drops, tuple) or not isinstance(trees, tuple):
        return False
    left = _all_of(whole)
    for drop in drops:
        if not _is_drop(pieces(_chosen(whole, left)), left, choice, drop):
            return False
        left = _without(left, [drop[:2]])
    told = [piece.goal_questions() for _, piece in _ending_at_loops(whole, choice)]
    if left != choice or len(trees) != len(told):
        return False
    return all([are_trees_of(questions, part) for questions, part in zip(told, trees)])


def best_outline(program, candidates, *, before=(), after=()):
    """The outline with the greatest carried choice as notes."""
    whole = Outline(program, before=before, notes=candidates)
    check_claims(whole.frame, after, MAX_NOTES)
    chosen = _chosen(whole, _last_choice(whole)[0])
    return Outline(program, before=before, notes=chosen.notes, after=after)


def _all_of(whole):
    """The choice of all candidates."""
    return tuple([tuple(range(len(claims))) for claims in whole.notes])


def _without(choice, dropped):
    """The choice without some pairs of a loop and an index."""
    told = [[index for index in indices if (loop, index) not in dropped] for loop, indices in enumerate(choice)]
    return tuple([tuple(indices) for indices in told])


def _chosen(whole, choice):
    """The outline with the chosen candidates as notes."""
    notes = [tuple([claims[index] for index in indices]) for claims, indices in zip(whole.notes, choice)]
    return Outline(whole.program, before=whole.before, notes=tuple(notes))


def _ending_at_loops(whole, choice):
    """A list of the pieces of the outline with a choice that end at a loop, each behind its index."""
    return [(number, piece) for number, piece in enumerate(pieces(_chosen(whole, choice))) if piece.stop >= 0]


def _last_choice(whole):
    """The greatest carried choice, and a list of what is dropped, as tuples (rank, loop, index, piece, situation)."""
    choice = _all_of(whole)
    dropped = []
    # Questions that were found to follow, with what was chosen at the beginning of their pieces.
    held = {}
    rank = 0
    while True:
        lost = _lost(whole, choice, held)
        if len(lost) == 0:
            return choice, dropped
        dropped.extend([(rank, loop, index, *lost[loop, index]) for loop, index in lost])
        choice = _without(choice, list(lost))
        rank += 1


def _lost(whole, choice, held):
    """A dict from the pairs (loop, index) that a round drops to a piece and a situation that breaks its question."""
    told = [(number, piece, piece.goal_questions()) for number, piece in _ending_at_loops(whole, choice)]
    check_all_small([question for _, _, questions in told for question in questions])
    found = {}
    for number, piece, questions in told:
        start = () if piece.start < 0 else choice[piece.start]
        for index, question in zip(choice[piece.stop], questions):
            pair = (piece.stop, index)
            if pair in found or held.get((number, index)) == start:
                continue
            word, shown = decided(question)
            if word == "broken":
                found[pair] = (number, shown)
            else:
                held[number, index] = start
    return found


def _moved(situation, frame):
    """The situation for a frame that differs in the names of versions only."""
    names = [name for name, _ in situation.frame.arrays]
    rows = {array: situation.rows[name] for name, (array, _) in zip(names, frame.arrays)}
    return made_situation(frame, rows, situation.positions, situation.amounts)


def _is_choice(whole, value):
    """Whether the value is a choice."""
    if not isinstance(value, tuple) or len(value) != len(whole.notes):
        return False
    return all([are_ascending(indices, len(claims)) for claims, indices in zip(whole.notes, value)])


def _is_drop(told, left, choice, value):
    """Whether the value shows that a candidate that is left, and is not in the choice, is to be dropped."""
    if not isinstance(value, tuple) or len(value) != 4:
        return False
    loop, index, number, situation = value
    if not is_integer(loop) or not 0 <= loop < len(left) or not is_integer(index):
        return False
    if index not in left[loop] or index in choice[loop]:
        return False
    if not is_integer(number) or not 0 <= number < len(told) or told[number].stop != loop:
        return False
    return told[number].goal_questions()[left[loop].index(index)].is_broken_by(situation)
