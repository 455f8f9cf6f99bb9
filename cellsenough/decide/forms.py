"""Claims as they are needed for a look at them beside what is known: with differences in the place of atoms.

A form is ("atom", word, differences), all of which are true; ("and", forms); ("or", forms); or ("all",), which is not
looked into.
"""

from cellsenough.solve.differing import literal_differences
from cellsenough.solve.nodes import cases_of


def form_of(claim):
    """The form of a claim."""
    differences = literal_differences(claim)
    if differences is not None:
        word = claim[1][0] if claim[0] == "not" else claim[0]
        return ("atom", word, differences)
    cases = cases_of(claim)
    if cases is not None:
        return ("or", [form_of(case) for case in cases])
    if claim[0] == "and":
        return ("and", [form_of(part) for part in claim[1]])
    if claim[0] == "all" or claim[1][0] == "all":
        return ("all",)
    if claim[1][0] == "not":
        return form_of(claim[1][1])
    return ("and", [form_of(("not", part)) for part in claim[1][1]])


def verdict(form, bounds):
    """True or False if what is known decides the form, else None. `bounds` is a dict from words to bounds."""
    if form[0] == "atom":
        return _atom_verdict(form[2], bounds[form[1]])
    if form[0] == "all":
        return None
    deciding = form[0] == "or"
    is_open = False
    for part in form[1]:
        found = verdict(part, bounds)
        if found == deciding:
            return deciding
        if found is None:
            is_open = True
    return None if is_open else not deciding


def _atom_verdict(differences, bounds):
    """The same for differences all of which should be true."""
    result = True
    for one, other, number in differences:
        back = bounds.bound(other, one)
        if back is not None and back + number < 0:
            return False
        known = bounds.bound(one, other)
        if known is None or known > number:
            result = None
    return result
