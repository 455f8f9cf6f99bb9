"""What a row does in a situation."""


def effect_of(situation, row):
    """What the row does: ("number", name, number), ("cell", array, position, number) or ("answer", answer).

    None is returned if it has a fault.
    """
    word = row[0]
    if word == "move":
        return ("number", row[1], situation.position_at(row[2]))
    if word == "keep":
        return ("number", row[1], situation.value_at(row[2])) if _is_inside(situation, row[2]) else None
    if word == "write":
        _, array, name, shift, term = row
        if not _is_inside(situation, term) or not _is_inside(situation, (array, name, shift, 0)):
            return None
        return ("cell", array, situation.position_at((name, shift)), situation.value_at(term))
    answer = _answer(situation, row[1])
    return None if answer is None else ("answer", answer)


def with_effect(situation, effect):
    """The situation behind an effect."""
    if effect[0] == "number":
        return situation.put_number(effect[1], effect[2])
    return situation.put_cell(effect[1], effect[2], effect[3]) if effect[0] == "cell" else situation


def undoing(situation, effect):
    """The effect that takes an effect in the situation back."""
    if effect[0] == "number":
        name = effect[1]
        held = situation.positions if name in situation.positions else situation.amounts
        return ("number", name, held[name])
    return (*effect[:3], situation.rows[effect[1]][effect[2]]) if effect[0] == "cell" else effect


def _is_inside(situation, term):
    """Whether a value term reads no cell outside of its array."""
    if len(term) == 2:
        return True
    return 0 <= situation.position_at(term[1:3]) < len(situation.rows[term[0]])


def _answer(situation, claim):
    """Whether a condition is true, or None if a cell outside is asked. No more is asked than is needed."""
    word = claim[0]
    if word == "pos":
        return situation.knows(claim)
    if word == "val":
        if not _is_inside(situation, claim[2]) or not _is_inside(situation, claim[3]):
            return None
        return situation.knows(claim)
    if word == "not":
        answer = _answer(situation, claim[1])
        return None if answer is None else not answer
    deciding = word == "or"
    for part in claim[1]:
        answer = _answer(situation, part)
        if answer is None or answer == deciding:
            return answer
    return not deciding
