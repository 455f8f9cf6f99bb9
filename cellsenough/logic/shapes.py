"""Which values have the shape of claims, guards and bodies."""

from cellsenough.base.frames import are_own_names
from cellsenough.errors import InvalidClaim

OPS = ("<=", "<", "==")
GUARD_OPS = ("<=", "==")
MAX_DEPTH = 12


def is_right(frame, role, own, value, most):
    """Whether the value is right as a "claim", a "guard" or a "body", of a depth of at most `most`, or any for None."""
    # Going down level by level, it ends soon for what is nested too deep to be walked through by recursion.
    level = [(role, own, value)]
    depth = 0
    while level:
        depth += 1
        if most is not None and depth > most:
            return False
        needed = [_needed_parts(frame, part_role, part_own, part) for part_role, part_own, part in level]
        if None in needed:
            return False
        level = [told for parts in needed for told in parts]
    return True


def check_claim(frame, claim):
    """Refuses what is no claim for the frame."""
    if not is_right(frame, "claim", (), claim, MAX_DEPTH):
        raise InvalidClaim("this is no claim for the frame")


def are_claims(frame, value, most):
    """Whether the value is a tuple of at most so many claims, or of any number of them for None."""
    if not isinstance(value, tuple) or (most is not None and len(value) > most):
        return False
    return all([is_right(frame, "claim", (), part, MAX_DEPTH) for part in value])


def check_claims(frame, claims, most):
    """Refuses what is no such tuple."""
    if not are_claims(frame, claims, most):
        raise InvalidClaim("these are not claims for the frame, or too many")


def is_body_term(frame, own, value):
    """Whether the value is a value term that reads no neighbour of an own name."""
    if not frame.has_amount(value, own):
        return False
    return len(value) == 2 or value[1] not in own or value[2] == 0


def _needed_parts(frame, role, own, value):
    """The parts that have to be right for the value to be right, with their roles, or None if it is wrong."""
    if isinstance(value, tuple) and len(value) == 2:
        return _needed_of_two(role, own, value)
    if isinstance(value, tuple) and len(value) == 4:
        return _needed_of_four(frame, role, own, value)
    return None


def _needed_of_two(role, own, value):
    """The same for a tuple of two, which can be a not, an and or an or."""
    word, inner = value
    if word == "not" and role != "guard":
        return [(role, own, inner)]
    if word in ("and", "or") and isinstance(inner, tuple):
        return [(role, own, part) for part in inner]
    return None


def _needed_of_four(frame, role, own, value):
    """The same for a tuple of four, which can be an all or an atom."""
    if value[0] != "all":
        return [] if _is_atom(frame, role, own, value) else None
    names = value[1]
    if role != "claim" or not are_own_names(frame, names) or len(names) == 0:
        return None
    return [("guard", names, value[2]), ("body", names, value[3])]


def _is_atom(frame, role, own, value):
    """Whether the value is an atom that can stand in a claim, a guard or a body."""
    word, op, one, other = value
    if role == "guard":
        return word == "pos" and op in GUARD_OPS and _is_guard_pair(frame, own, one, other)
    if op not in OPS:
        return False
    if word == "val":
        return is_body_term(frame, own, one) and is_body_term(frame, own, other)
    return role == "claim" and word == "pos" and frame.has_place(one, ()) and frame.has_place(other, ())


def _is_guard_pair(frame, own, one, other):
    """Whether these are position terms, at least one an own name, and each own name has the number 0."""
    if not frame.has_place(one, own) or not frame.has_place(other, own):
        return False
    held = [term for term in (one, other) if term[0] in own]
    return len(held) > 0 and all([term[1] == 0 for term in held])
