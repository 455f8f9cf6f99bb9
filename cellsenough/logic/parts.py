"""What stands in claims, and claims with other terms in them. All claims here are right ones."""


def parts_of(claim):
    """The claims, guards and bodies that stand in it directly."""
    word = claim[0]
    if word == "not":
        return claim[1:]
    if word == "all":
        return claim[2:]
    return claim[1] if word in ("and", "or") else ()


def all_parts(claim):
    """A list of the claim itself and of everything that stands in it."""
    found = []
    left = [claim]
    while left:
        part = left.pop()
        found.append(part)
        left.extend(parts_of(part))
    return found


def terms_in(claim):
    """A list of all terms of its atoms."""
    return [term for part in all_parts(claim) if part[0] in ("pos", "val") for term in part[2:]]


def rebuilt(claim, change):
    """The claim with change(part) in the place of each atom and each all in it."""
    word = claim[0]
    if word == "not":
        return ("not", rebuilt(claim[1], change))
    if word in ("and", "or"):
        return (word, tuple([rebuilt(part, change) for part in claim[1]]))
    return change(claim)


def with_terms(claim, terms, arrays):
    """The claim with terms in the place of names, and arrays in the place of arrays, all at once.

    An own name of an all that is given a term is called like the name of this term.
    """
    return rebuilt(claim, lambda part: _part_with(part, terms, arrays))


def _part_with(part, terms, arrays):
    """An atom or an all with other terms and arrays."""
    if part[0] == "all":
        names = tuple([place_with(name, 0, terms)[0] for name in part[1]])
        return ("all", names, with_terms(part[2], terms, arrays), with_terms(part[3], terms, arrays))
    word, op, one, other = part
    return (word, op, term_with(one, terms, arrays), term_with(other, terms, arrays))


def term_with(term, terms, arrays):
    """A term with other terms and arrays in it."""
    if len(term) == 4:
        array, name, shift, number = term
        return (arrays.get(array, array), *place_with(name, shift, terms), number)
    if term[0] not in terms:
        return term
    new = terms[term[0]]
    return (*new[:-1], new[-1] + term[1])


def place_with(name, number, terms):
    """The position term (name, number) with another term in the place of the name."""
    new, more = terms.get(name, (name, 0))
    return (new, more + number)
