"""Claims: which values are claims, what stands in them, and claims made of others."""

from cellsenough.base.frames import LONGEST_NAME, are_own_names, check_frame
from cellsenough.errors import InvalidOperation, InvalidTerm
from cellsenough.logic.parts import all_parts, parts_of, rebuilt, terms_in, with_terms
from cellsenough.logic.shapes import MAX_DEPTH, OPS, check_claim, is_body_term, is_right


def is_claim(frame, value):
    """Whether the value is a claim for the frame."""
    check_frame(frame)
    return is_right(frame, "claim", (), value, MAX_DEPTH)


def is_guard(frame, own, value):
    """Whether the value is a guard with these own names."""
    check_frame(frame)
    _check_own_of_all(frame, own)
    return is_right(frame, "guard", own, value, None)


def is_body(frame, own, value):
    """Whether the value is a body with these own names."""
    check_frame(frame)
    _check_own_of_all(frame, own)
    return is_right(frame, "body", own, value, None)


def names_of(frame, claim):
    """The ascending tuple of the names of the frame that stand in the claim."""
    check_frame(frame)
    check_claim(frame, claim)
    # A cell begins with two names, every other term with one.
    names = [name for term in terms_in(claim) for name in term[:len(term) // 2]]
    return tuple(sorted({name for name in names if name in frame}))


def claim_depth(frame, claim):
    """How many levels of parts the claim has."""
    check_frame(frame)
    check_claim(frame, claim)
    depth = 0
    level = [claim]
    while level:
        depth += 1
        level = [part for upper in level for part in parts_of(upper)]
    return depth


def has_all(frame, claim):
    """Whether an all stands in the claim."""
    check_frame(frame)
    check_claim(frame, claim)
    return any([part[0] == "all" for part in all_parts(claim)])


def plain_claim(frame, claim, *, is_true=True):
    """The claim, or its opposite, with nots ahead of alls only."""
    check_frame(frame)
    check_claim(frame, claim)
    if is_true is not True and is_true is not False:
        raise InvalidOperation("this is neither True nor False")
    return _plain(claim, is_true)


def replaced(frame, claim, terms):
    """The claim with terms in the place of positions and values."""
    check_frame(frame)
    check_claim(frame, claim)
    if not _is_replacement(frame, terms):
        raise InvalidOperation("this is no dict from positions and values to terms")
    result = with_terms(claim, terms, {})
    # Terms in the place of names leave a claim a claim, but for numbers that get too long.
    if not is_claim(frame, result):
        raise InvalidOperation("a number would be too long")
    return result


def used_at(frame, claim, terms):
    """What an all says about these position terms."""
    check_frame(frame)
    check_claim(frame, claim)
    if claim[0] != "all":
        raise InvalidOperation("this is no all")
    _, own, guard, body = claim
    if not isinstance(terms, tuple) or len(terms) != len(own):
        raise InvalidOperation("these are not as many terms as own names")
    if not all([frame.is_position_term(term) for term in terms]):
        raise InvalidOperation("these are not position terms")
    return with_terms(("or", (("not", guard), body)), dict(zip(own, terms)), {})


def inside_claim(frame, array, term):
    """The claim that the position term is inside the array."""
    check_frame(frame)
    length = frame.length_of(array)
    _check_position_term(frame, term)
    return ("and", (("pos", "<=", ("", 0), term), ("pos", "<", term, (length, 0))))


def all_between(frame, low, high, op, one, other):
    """The claim that the value terms compare so for all positions from low to high."""
    check_frame(frame)
    _check_position_term(frame, low)
    _check_position_term(frame, high)
    if op not in OPS:
        raise InvalidOperation("this is none of the signs")
    own = own_names_for(frame, ("k",), 1)
    if not is_body_term(frame, own, one) or not is_body_term(frame, own, other):
        raise InvalidTerm("this is no value term in which the own name can stand so")
    place = (own[0], 0)
    guard = ("and", (("pos", "<=", low, place), ("pos", "<=", place, high)))
    return ("all", own, guard, ("val", op, one, other))


def in_order(frame, array, low, high):
    """The claim that the cells from low to high do not fall."""
    check_frame(frame)
    frame.length_of(array)
    _check_position_term(frame, low)
    _check_position_term(frame, high)
    own = own_names_for(frame, ("j", "k"), 2)
    one, other = (own[0], 0), (own[1], 0)
    guard = ("and", (("pos", "<=", low, one), ("pos", "<=", one, other), ("pos", "<=", other, high)))
    return ("all", own, guard, ("val", "<=", (array, *one, 0), (array, *other, 0)))


def renamed_claim(frame, claim, names):
    """The claim for the renamed frame."""
    check_frame(frame)
    check_claim(frame, claim)
    target = frame.renamed(names)
    return rebuilt(claim, lambda part: _renamed_part(target, part, names))


def own_names_for(frame, letters, many, taken=()):
    """The first fresh names of the letters, the letters twice, and so on, that are not taken."""
    told = [letter * times for times in range(1, LONGEST_NAME + 1) for letter in letters]
    free = [name for name in told if frame.is_fresh(name) and name not in taken]
    if len(free) < many:
        raise InvalidOperation("no fresh name is left")
    return tuple(free[:many])


def _check_own_of_all(frame, own):
    """Refuses what cannot be the own names of an all."""
    if not are_own_names(frame, own) or len(own) == 0:
        raise InvalidTerm("these are not one or two different fresh names")


def _check_position_term(frame, term):
    """Refuses what is no position term."""
    if not frame.is_position_term(term):
        raise InvalidTerm("this is no position term")


def _plain(claim, is_true):
    """The claim, guard excluded, or its opposite, with nots ahead of alls only."""
    word = claim[0]
    if word == "not":
        return _plain(claim[1], not is_true)
    if word == "all":
        whole = (*claim[:3], _plain(claim[3], True))
        return whole if is_true else ("not", whole)
    if word in ("and", "or"):
        turned = "or" if word == "and" else "and"
        return (word if is_true else turned, tuple([_plain(part, is_true) for part in claim[1]]))
    return claim if is_true else _opposite(claim)


def _opposite(atom):
    """What is true exactly if the atom is false, without a not."""
    word, op, one, other = atom
    if op == "<=":
        return (word, "<", other, one)
    if op == "<":
        return (word, "<=", other, one)
    return ("or", ((word, "<", one, other), (word, "<", other, one)))


def _is_replacement(frame, terms):
    """Whether this is a dict from some positions to position terms and some values to value terms."""
    return isinstance(terms, dict) and all([_is_replaced_by(frame, name, terms[name]) for name in terms])


def _is_replaced_by(frame, name, term):
    """Whether the term can be put in the place of the name."""
    if name in frame.positions:
        return frame.is_position_term(term)
    return name in frame.amounts and frame.is_value_term(term)


def _renamed_part(frame, part, names):
    """An atom or an all with its names replaced, and own names that would not be fresh for the renamed frame."""
    terms = {name: (names[name], 0) for name in names}
    own = list(part[1]) if part[0] == "all" else []
    for at, name in enumerate(list(own)):
        if not frame.is_fresh(name):
            own[at] = own_names_for(frame, ("k",), 1, tuple(own))[0]
            terms[name] = (own[at], 0)
    return with_terms(part, terms, names)
