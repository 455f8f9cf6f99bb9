"""The members of questions, and what keeps them as they are: situations laid anew, and numbers moved together.

A claim stands here with a sign: True under an even number of nots, False under an odd one.
"""

from cellsenough.logic.parts import all_parts, terms_in
from cellsenough.world.truth import cell_at


def signed_parts(claim, sign):
    """A list of the parts that stand outside of alls, with their signs, from left to right, alls included."""
    word = claim[0]
    if word == "not":
        return signed_parts(claim[1], not sign)
    if word in ("and", "or"):
        return [found for part in claim[1] for found in signed_parts(part, sign)]
    return [(claim, sign)]


def needs_of(claim, sign):
    """What a claim with a sign brings to a question: a list of member terms, but for new positions; a list of its
    negative alls, in the order in which they stand; and its greatest number.
    """
    terms = []
    negative = []
    for part, part_sign in signed_parts(claim, sign):
        terms.extend(_terms_of_part(part, part_sign))
        if part[0] == "all" and not part_sign:
            negative.append(part)
    return terms, negative, _greatest_number(claim)


def member_terms(frame, needs):
    """The members of a question whose claims have these needs, but for new positions, as keys of a dict."""
    found = {("", -1): True, ("", 0): True}
    for length in frame.lengths:
        found[(length, 0)] = True
    for terms, _, _ in needs:
        for term in terms:
            found[term] = True
    return found


def position_terms(part):
    """The position terms that stand in an atom, those of cells included; none for another part."""
    if part[0] == "pos":
        return part[2:]
    if part[0] == "val":
        return [term[1:3] for term in part[2:] if len(term) == 4]
    return []


def squeezed(numbers, widest):
    """The numbers of names, closer together: gaps between neighbours are at most so wide, and "" stays at 0."""
    places = sorted(set(list(numbers.values())))
    moved = {places[0]: 0}
    for before, place in zip(places, places[1:]):
        moved[place] = moved[before] + min(place - before, widest)
    return {name: moved[numbers[name]] - moved[numbers[""]] for name in numbers}


def laid_rows(frame, rows, members, old, new):
    """The rows that change at members only: each cell is that at the greatest member that is not beyond it.

    `old` has the numbers of names by which the members stand in the rows, `new` those by which they stand in the
    rows that are returned.
    """
    places = {new[name] + number: old[name] + number for name, number in members}
    ascending = sorted(places)
    laid = {}
    for array, length in frame.arrays:
        row = []
        for place, ahead in zip(ascending, [*ascending[1:], new[length]]):
            cell = cell_at(rows[array], places[place])
            row.extend([cell] * (min(ahead, new[length]) - max(place, 0)))
        laid[array] = tuple(row)
    return laid


def _terms_of_part(part, sign):
    """The terms without own names at which cells are read, and those compared with own names in a positive all."""
    own = part[1] if part[0] == "all" else ()
    cells = part[3] if part[0] == "all" else part
    found = [term[1:3] for term in terms_in(cells) if len(term) == 4]
    if part[0] == "all" and sign:
        found.extend(terms_in(part[2]))
    return [term for term in found if term[0] not in own]


def _greatest_number(claim):
    """The greatest number of all position terms in the claim, without its sign, and at least 1."""
    return max([1, *[abs(term[1]) for part in all_parts(claim) for term in position_terms(part)]])
