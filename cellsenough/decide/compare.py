"""Claims beside each other: which follow from others, and which are not needed."""

from cellsenough.base.frames import check_frame
from cellsenough.base.integers import are_ascending
from cellsenough.decide.limits import check_all_small, check_small
from cellsenough.decide.pairs import truths_of
from cellsenough.decide.search import decided, does_follow
from cellsenough.errors import InvalidClaim, InvalidOperation
from cellsenough.logic.shapes import check_claim, check_claims
from cellsenough.solve.questions import Question, check_question
from cellsenough.solve.trees import is_tree

MAX_COMPARED = 6
MAX_BESIDE = 30


def are_alike(frame, one, other, given=()):
    """Whether each situation with the given claims has both claims or none of them."""
    return _parting(frame, one, other, given) is None


def parting(frame, one, other, given=()):
    """A situation with the given claims that has just one of both claims, or None."""
    return _parting(frame, one, other, given)


def implications(frame, claims, given=()):
    """The ascending tuple of all pairs of indices of which the second claim follows from the first one."""
    _check_compared(frame, claims, given)
    return _implications(frame, claims, given)


def claim_classes(frame, claims, given=()):
    """The ascending tuple of the classes of alike claims."""
    _check_compared(frame, claims, given)
    return _classes(len(claims), _implications(frame, claims, given))


def strongest(frame, claims, given=()):
    """The classes whose claims follow from no claim of another class."""
    _check_compared(frame, claims, given)
    pairs = _implications(frame, claims, given)
    return _without_ones_in(_classes(len(claims), pairs), [(other, one) for one, other in pairs])


def weakest(frame, claims, given=()):
    """The classes from whose claims no claim of another class follows."""
    _check_compared(frame, claims, given)
    pairs = _implications(frame, claims, given)
    return _without_ones_in(_classes(len(claims), pairs), pairs)


def needless(frame, claims, given=()):
    """The ascending tuple of the indices of the claims that follow from all other ones."""
    _check_compared(frame, claims, given)
    indices = range(len(claims))
    questions = [Question(frame, given + claims[:at] + claims[at + 1:], claims[at]) for at in indices]
    check_all_small(questions)
    return tuple([at for at in indices if does_follow(questions[at])])


def thinned(frame, claims, given=()):
    """The ascending tuple of the indices that remain if claims that follow from the others are taken away in turn."""
    _check_compared(frame, claims, given)
    kept = list(range(len(claims)))
    for at in range(len(claims)):
        others = [other for other in kept if other != at]
        question = Question(frame, given + tuple([claims[other] for other in others]), claims[at])
        check_small(question)
        if does_follow(question):
            kept = others
    return tuple(kept)


def core(question):
    """The indices of the given claims that remain if those that are not needed are taken away in turn."""
    check_question(question)
    return _core(question)


def core_paper(question):
    """The core, a tree with these given claims alone, and situations that show that each of them is needed."""
    check_question(question)
    kept = _core(question)
    alone = _with_only(question, kept)
    shown = [decided(alone.without(at))[1] for at in range(len(kept))]
    return (kept, decided(alone)[1], tuple(shown))


def is_core_paper(question, value):
    """Whether the value is such a tuple for the question, of any indices."""
    check_question(question)
    if not isinstance(value, tuple) or len(value) != 3:
        return False
    indices, tree, shown = value
    if not are_ascending(indices, len(question)) or not isinstance(shown, tuple):
        return False
    alone = _with_only(question, indices)
    if len(shown) != len(indices) or not is_tree(alone, tree):
        return False
    return all([alone.without(at).is_broken_by(situation) for at, situation in enumerate(shown)])


def _check_compared(frame, claims, given):
    """Refuses what is no frame, and what are not one to six claims, and at most thirty given ones."""
    check_frame(frame)
    check_claims(frame, claims, MAX_COMPARED)
    if len(claims) == 0:
        raise InvalidClaim("there is no claim")
    check_claims(frame, given, MAX_BESIDE)


def _parting(frame, one, other, given):
    """A situation with the given claims that has just one of both claims, or None."""
    check_frame(frame)
    check_claim(frame, one)
    check_claim(frame, other)
    check_claims(frame, given, MAX_BESIDE)
    questions = (Question(frame, (*given, one), other), Question(frame, (*given, other), one))
    check_all_small(questions)
    for question in questions:
        word, shown = decided(question)
        if word == "broken":
            return shown
    return None


def _implications(frame, claims, given):
    """All pairs of indices of which the second claim follows from the first one and the given ones."""
    indices = range(len(claims))
    beside = Question(frame, given, claims[0])
    with_one = [beside.with_given(claim) for claim in claims]
    pairs = [(one, other) for one in indices for other in indices if one != other]
    questions = {(one, other): with_one[one].wanting(claims[other]) for one, other in pairs}
    check_all_small([questions[pair] for pair in pairs])
    truths = truths_of(questions, dict(enumerate(claims)), {})
    return tuple([pair for pair in pairs if truths[pair]])


def _classes(many, pairs):
    """The classes of so many claims, by the pairs of their implications."""
    alike = {pair: True for pair in pairs if pair[::-1] in pairs}
    indices = range(many)
    found = {tuple([other for other in indices if other == at or (at, other) in alike]): True for at in indices}
    return tuple(sorted(found))


def _without_ones_in(classes, pairs):
    """The classes from which no pair leads to another class."""
    return tuple([told for told in classes if all([other in told for one, other in pairs if one in told])])


def _core(question):
    """The indices of the given claims that remain."""
    check_small(question)
    if not does_follow(question):
        raise InvalidOperation("the question does not follow")
    kept = list(range(len(question)))
    for at in range(len(question)):
        others = [other for other in kept if other != at]
        if does_follow(_with_only(question, others)):
            kept = others
    return tuple(kept)


def _with_only(question, indices):
    """The question with these given claims alone."""
    return Question(question.frame, tuple([question.claims[at] for at in indices]), question.goal)
