"""Situations from which two programs without loops do not work alike.

Each way through one program is laid beside each way through the other one. What both come to is asked of questions
about one frame, with versions of arrays for the writes of both.
"""

from cellsenough.code.courses import Course, version_names
from cellsenough.code.walks import walks
from cellsenough.decide.branches import fresh_names
from cellsenough.decide.search import decided
from cellsenough.logic.claims import inside_claim
from cellsenough.solve.members import needs_of
from cellsenough.solve.questions import made_question


def parting_of(one, other, given, most_writes):
    """A situation with the given claims from which two programs for a frame do not work alike, or None.

    On no way of a program there are more writes than told.
    """
    versions = version_names(one.frame, given, 2 * most_writes)
    # Ways, each with a beginning of a way of the other program, which were looked at.
    seen = {}
    for way in walks(one):
        for other_way in walks(other):
            first, second = _sides((one, way), (other, other_way), versions)
            found = _ending_apart(one.frame, first, second, given)
            if found is None:
                found = _faulty_beside(first, second, given, seen, (way, True))
            if found is None:
                found = _faulty_beside(second, first, given, seen, (other_way, False))
            if found is not None:
                return found.for_frame(one.frame)
    return None


class Side:
    """A way through rows, for a frame with versions, and what is true on it where no cell that it asks is outside."""

    def __init__(self, frame, own, program, way, versions):
        _, _, answers, trail = way
        self.course = Course(frame, versions, own)
        # For each row that asks cells: the answers ahead of it, its number, how much was said ahead of it, and that
        # no cell that it asks is outside.
        self.asking = []
        many = 0
        for number in trail:
            row = program.row(number)
            known, said = len(self.course.asked), len(self.course.said)
            self.course.take(number, row, answers[many] if row[0] == "if" else None)
            if len(self.course.asked) > known:
                self.asking.append((answers[:many], number, said, _none_outside(frame, self.course.asked[known:])))
            many += 1 if row[0] == "if" else 0

    def told(self):
        """A list of all that is true at its end."""
        return [*self.course.said, *[claim for _, _, _, claim in self.asking]]


def _sides(one, other, versions):
    """Both sides, of pairs of a program and a way."""
    frame = one[0].frame
    written = [[program.row(number)[1] for number in way[3] if program.row(number)[0] == "write"]
               for program, way in (one, other)]
    more = [(version, frame.length_of(array)) for version, array in zip(versions, [*written[0], *written[1]])]
    basis = frame.with_names(arrays=tuple(more))
    others = versions[len(written[0]):]
    own = fresh_names(basis, 1)[0]
    return Side(basis, own, *one, versions), Side(basis, own, *other, others)


def _none_outside(frame, asked):
    """The claim that no cell is outside of those that are asked, some of them only if claims ahead are true."""
    told = []
    for _, _, ahead, (array, *place) in asked:
        is_inside = inside_claim(frame, array, tuple(place))
        told.append(("or", (*[("not", claim) for claim in ahead], is_inside)))
    return ("and", tuple(told))


def _broken(frame, facts, wanted):
    """A situation with all facts in which the wanted claim is false, or None."""
    word, shown = decided(made_question(frame, tuple(facts), wanted, [needs_of(fact, True) for fact in facts]))
    return shown if word == "broken" else None


def _ending_apart(frame, first, second, given):
    """A situation from which both sides come to their ends, which are not equal, or None."""
    ends, other_ends = first.course.ends_in(frame), second.course.ends_in(frame)
    apart = [name for name in ends if ends[name] != other_ends[name]]
    if len(apart) == 0:
        return None
    basis = first.course.basis
    wanted = ("and", tuple([_equality(basis, frame.kind_of(name), ends[name], other_ends[name]) for name in apart]))
    return _broken(basis, [*given, *first.told(), *second.told()], wanted)


def _equality(frame, kind, one, other):
    """The claim that two terms, or two arrays, are equal."""
    if kind != "array":
        return ("pos" if kind == "position" else "val", "==", one, other)
    own = fresh_names(frame, 1)[0]
    return ("all", (own,), ("and", ()), ("val", "==", (one, own, 0, 0), (other, own, 0, 0)))


def _faulty_beside(first, second, given, seen, key):
    """A situation from which the first side comes to its end, and the second one to a fault, or None."""
    beside = [*given, *first.told()]
    for answers, number, said, claim in second.asking:
        # Other ways have the same beginnings.
        if (key, answers, number) not in seen:
            seen[key, answers, number] = True
            found = _broken(first.course.basis, [*beside, *second.course.said[:said]], claim)
            if found is not None:
                return found
        # A fault that comes first is found first; without it, there is less to be looked at behind it.
        beside.append(claim)
    return None
