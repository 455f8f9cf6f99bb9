"""What lies on a desk at one time, and what follows from what then."""

from cellsenough.decide.limits import check_all_small
from cellsenough.decide.pairs import truths_of
from cellsenough.decide.search import does_follow
from cellsenough.errors import Refused
from cellsenough.solve.questions import Question

NEVER = ("or", ())


class Layout:
    """Facts, claims by their names, pins, and which pairs of names have claims of which the second one follows."""

    def __init__(self, facts, claims, pins, truths):
        self.taken = facts
        self.named = {name: claims[name] for name in sorted(claims)}
        self.pinned = pins
        self.truths = truths


def changed_layout(frame, old, facts, claims, pins):
    """The layout with these facts, claims and pins in the place of an old one.

    It is refused if a question is too large, or a pin does not hold.
    """
    names = sorted(claims)
    beside = {name: Question(frame, (*facts, claims[name]), NEVER) for name in names}
    pairs = [(one, other) for one in names for other in names if one != other]
    questions = {(one, other): beside[one].wanting(claims[other]) for one, other in pairs}
    pinned = [beside[pin[1]] for pin in pins if pin[0] == "possible"]
    check_all_small([*[questions[pair] for pair in pairs], *pinned])
    truths = truths_of(questions, claims, _known(old, facts, claims, pairs))
    for pin in pins:
        if not _does_hold(pin, truths, beside):
            raise Refused(pin)
    return Layout(facts, claims, pins, truths)


def news_between(old, new):
    """The ascending tuple of the news of a change from an old layout to a new one."""
    news = []
    for pair in sorted({**old.truths, **new.truths}):
        if old.truths.get(pair) != new.truths.get(pair):
            news.append((*pair, old.truths.get(pair), new.truths.get(pair)))
    return tuple(news)


def _known(old, facts, claims, pairs):
    """What is known of the pairs by an old layout."""
    same = [pair for pair in pairs if pair in old.truths and all([old.named[name] == claims[name] for name in pair])]
    # With more facts, what follows still follows; with fewer ones, what does not still does not.
    has_more = all([fact in facts for fact in old.taken])
    has_less = all([fact in old.taken for fact in facts])
    return {pair: old.truths[pair] for pair in same if (has_more if old.truths[pair] else has_less)}


def _does_hold(pin, truths, beside):
    """Whether a pin holds."""
    if pin[0] == "possible":
        return not does_follow(beside[pin[1]])
    return truths[pin[1:]] == (pin[0] == "follows")
