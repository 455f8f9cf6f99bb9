"""What the nodes of a tree add to the facts on the way.

A step is a node without the numbers of its next ones. `facts` is the list of the facts known at it, and `made` has
the names that were made on the way.
"""

from cellsenough.base.integers import is_integer
from cellsenough.logic.parts import with_terms
from cellsenough.solve.differing import is_ring_of, literal_differences

# The kinds of nodes, with the number of the things that their steps consist of.
SIZES = {"part": 3, "cases": 2, "new": 3, "at": 3, "apart": 3, "same": 3, "outside": 3, "ring": 2}
# Those that have one next node, those that have a tuple of next ones; a ring has none.
SINGLE = ("part", "new", "at", "same", "outside")
SPLIT = ("cases", "apart")


def branches_of(frame, facts, made, step):
    """A tuple of what is added on the way to each next one, a tuple of facts; None if there is no such step here."""
    kind = step[0]
    if kind == "part":
        return _part(facts, step)
    if kind == "cases":
        return _cases(facts, step)
    if kind == "new":
        return _new(frame, facts, made, step)
    if kind == "at":
        return _at(frame, facts, made, step)
    if kind == "apart":
        return _apart(frame, made, step)
    if kind == "same":
        return _same(frame, facts, step)
    if kind == "outside":
        return _beyond(frame, facts, step)
    return () if is_ring_step(facts, step[1]) else None


def names_made(step):
    """The names that a step makes."""
    return step[2] if step[0] == "new" else ()


def part_of(fact, index):
    """The part of a fact with this index, or None."""
    if fact[0] == "and":
        return fact[1][index] if index < len(fact[1]) else None
    if fact[0] == "not" and fact[1][0] == "or":
        return ("not", fact[1][1][index]) if index < len(fact[1][1]) else None
    if fact[0] == "not" and fact[1][0] == "not" and index == 0:
        return fact[1][1]
    return None


def cases_of(fact):
    """A list of the cases of which a fact says that one is true, or None if it is of another kind."""
    if fact[0] == "or":
        return list(fact[1])
    if fact[0] == "not" and fact[1][0] == "and":
        return [("not", part) for part in fact[1][1]]
    if fact[0] == "not" and fact[1][0] in ("pos", "val") and fact[1][1] == "==":
        word, _, one, other = fact[1]
        return [(word, "<", one, other), (word, "<", other, one)]
    return None


def denied_at(claim, names):
    """What is true of new names for which an all is false."""
    terms = {own: (name, 0) for own, name in zip(claim[1], names)}
    return (with_terms(claim[2], terms, {}), ("not", with_terms(claim[3], terms, {})))


def said_at(claim, terms):
    """What an all says about these position terms."""
    return with_terms(("or", (("not", claim[2]), claim[3])), dict(zip(claim[1], terms)), {})


def compared(one, other):
    """The three ways in which two position terms can be to one another."""
    return (("pos", "<", one, other), ("pos", "<", other, one), ("pos", "==", one, other))


def place_outside(length, fact):
    """The position term that a fact puts outside of the arrays of this length, or None."""
    if fact[0] != "pos" or fact[1] != "<":
        return None
    if fact[3] == ("", 0):
        return fact[2]
    return fact[3] if fact[2] == (length, -1) else None


def is_ring_step(facts, steps):
    """Whether pairs of a fact and a way form a ring, of positions only or of values only."""
    if not isinstance(steps, tuple):
        return False
    words = []
    differences = []
    for pair in steps:
        if not isinstance(pair, tuple) or len(pair) != 2 or not _is_fact(facts, pair[0]):
            return False
        fact = facts[pair[0]]
        told = literal_differences(fact)
        if told is None or not is_integer(pair[1]) or not 0 <= pair[1] < len(told):
            return False
        differences.append(told[pair[1]])
        words.append(fact[1][0] if fact[0] == "not" else fact[0])
    return words.count("pos") in (0, len(words)) and is_ring_of(differences)


def _is_fact(facts, number):
    """Whether this is the number of a known fact."""
    return is_integer(number) and 0 <= number < len(facts)


def _is_array(frame, value):
    """Whether the value is an array of the frame."""
    return value in frame and frame.kind_of(value) == "array"


def _is_term(frame, made, value):
    """Whether the value is a position term, in which names made on the way can stand."""
    if frame.is_position_term(value):
        return True
    if not isinstance(value, tuple) or len(value) != 2:
        return False
    return isinstance(value[0], str) and value[0] in made and is_integer(value[1])


def _part(facts, step):
    """What a part adds."""
    _, number, index = step
    if not _is_fact(facts, number) or not is_integer(index) or index < 0:
        return None
    part = part_of(facts[number], index)
    return None if part is None else ((part,),)


def _cases(facts, step):
    """What the cases add."""
    found = cases_of(facts[step[1]]) if _is_fact(facts, step[1]) else None
    return None if found is None else tuple([(case,) for case in found])


def _is_denied_all(facts, number):
    """Whether this is the number of a not of an all."""
    return _is_fact(facts, number) and facts[number][0] == "not" and facts[number][1][0] == "all"


def _new(frame, facts, made, step):
    """What new names add."""
    _, number, names = step
    if not _is_denied_all(facts, number) or not isinstance(names, tuple):
        return None
    if not all([frame.is_fresh(name) and name not in made for name in names]):
        return None
    claim = facts[number][1]
    if len(names) != len(claim[1]) or len(set(names)) != len(names):
        return None
    return (denied_at(claim, names),)


def _at(frame, facts, made, step):
    """What an all adds at some terms."""
    _, number, terms = step
    if not _is_fact(facts, number) or facts[number][0] != "all" or not isinstance(terms, tuple):
        return None
    claim = facts[number]
    if len(terms) != len(claim[1]) or not all([_is_term(frame, made, term) for term in terms]):
        return None
    return ((said_at(claim, terms),),)


def _apart(frame, made, step):
    """What two terms beside each other add."""
    _, one, other = step
    if not _is_term(frame, made, one) or not _is_term(frame, made, other):
        return None
    return tuple([(case,) for case in compared(one, other)])


def _same(frame, facts, step):
    """What an equality of positions adds."""
    _, array, number = step
    if not _is_array(frame, array) or not _is_fact(facts, number):
        return None
    fact = facts[number]
    if fact[0] != "pos" or fact[1] != "==":
        return None
    return ((("val", "==", (array, *fact[2], 0), (array, *fact[3], 0)),),)


def _beyond(frame, facts, step):
    """What a position outside of an array adds."""
    _, array, number = step
    if not _is_array(frame, array) or not _is_fact(facts, number):
        return None
    place = place_outside(frame.length_of(array), facts[number])
    return None if place is None else ((("val", "==", (array, *place, 0), ("", 0)),),)
