"""At which members an all is to be used, when it is false in a guess."""

from cellsenough.decide.forms import form_of, verdict
from cellsenough.logic.parts import terms_in
from cellsenough.solve.nodes import said_at
from cellsenough.world.truth import first_failure, is_true


def failing_terms(branch, members, fact, rows, numbers):
    """Terms among the members at which the all is to be used, as it is false there in the guess; None if it is true.

    Where the all is false at terms at which its cells are read already, the ones that leave fewest cases are told.
    """
    claim = branch.claim_of(fact)
    failing = first_failure(rows, numbers, claim)
    if failing is None:
        return None
    best = None
    for terms in _pairs(_read_terms(branch, claim, numbers), len(claim[1])):
        if branch.seen(("at", fact, terms)) is None and _is_false_at(rows, numbers, claim, terms):
            many = _open_cases(branch, claim, terms)
            if best is None or many < best[0]:
                best = (many, terms)
    if best is not None:
        return best[1]
    terms = tuple([_member_at(members, numbers, place) for place in failing])
    return terms if branch.seen(("at", fact, terms)) is None else None


def _read_terms(branch, claim, numbers):
    """Terms at which cells of the arrays of its body are read, one for each number."""
    arrays = [term[0] for term in terms_in(claim[3]) if len(term) == 4 and term[1] in claim[1]]
    found = {}
    for point in branch.bounds["val"].points():
        if isinstance(point, tuple) and point[0] in arrays:
            found.setdefault(numbers[point[1]] + point[2], point[1:])
    return [found[place] for place in sorted(found)]


def _pairs(terms, many):
    """A list of all tuples of so many of the terms, one or two."""
    if many == 1:
        return [(term,) for term in terms]
    return [(one, other) for one in terms for other in terms]


def _is_false_at(rows, numbers, claim, terms):
    """Whether an all is false at some terms in a guess."""
    known = dict(numbers)
    for own, (name, shift) in zip(claim[1], terms):
        known[own] = numbers[name] + shift
    return is_true(rows, known, claim[2]) and not is_true(rows, known, claim[3])


def _open_cases(branch, claim, terms):
    """How many cases what the all says at some terms leaves open."""
    verdicts = [verdict(form, branch.bounds) for form in form_of(said_at(claim, terms))[1]]
    return verdicts.count(None)


def _member_at(members, numbers, place):
    """The greatest member that is not beyond the place, or the least one if all are."""
    standing = {}
    for name, shift in members:
        standing.setdefault(numbers[name] + shift, (name, shift))
    before = [at for at in standing if at <= place]
    return standing[max(before) if before else min(list(standing))]
