"""A desk with facts and claims by names, which tells what every change makes true or false."""

from cellsenough.base.checks import check_index, check_undo
from cellsenough.base.frames import check_frame, is_name
from cellsenough.decide.limits import check_small
from cellsenough.decide.search import decided, does_follow
from cellsenough.desk.layouts import Layout, changed_layout, news_between
from cellsenough.errors import InvalidOperation, TooMany, UnknownName
from cellsenough.logic.shapes import check_claim
from cellsenough.solve.questions import Question

MAX_CLAIMS = 8
MAX_PINS = 8


class Desk:
    """Facts, claims by names, and pins about them, which hold at all times."""

    def __init__(self, frame):
        check_frame(frame)
        self._frame = frame
        self._now = Layout((), {}, (), {})
        # The layouts ahead of the changes, and those that were taken back; the last one is the next one.
        self._before = []
        self._taken_back = []

    @property
    def frame(self):
        """The frame of the claims."""
        return self._frame

    @property
    def facts(self):
        """The tuple of the facts."""
        return self._now.taken

    @property
    def claims(self):
        """A dict from the names to the claims."""
        return dict(self._now.named)

    @property
    def pins(self):
        """The tuple of the pins."""
        return self._now.pinned

    def enter(self, name, claim):
        """Adds or replaces a claim, and returns the news."""
        if not is_name(name):
            raise InvalidOperation("this is no name")
        check_claim(self._frame, claim)
        if name not in self and len(self) == MAX_CLAIMS:
            raise TooMany(MAX_CLAIMS)
        return self._change(self._now.taken, {**self._now.named, name: claim}, self._now.pinned)

    def remove(self, name):
        """Takes a claim away, and returns the news."""
        self._check_name(name)
        if len([pin for pin in self._now.pinned if name in pin[1:]]) > 0:
            raise InvalidOperation("a pin names this claim")
        kept = {other: self._now.named[other] for other in self._now.named if other != name}
        return self._change(self._now.taken, kept, self._now.pinned)

    def suppose(self, claim):
        """Puts a fact behind the others, and returns the news."""
        check_claim(self._frame, claim)
        if len(self._now.taken) == MAX_CLAIMS:
            raise TooMany(MAX_CLAIMS)
        return self._change((*self._now.taken, claim), self._now.named, self._now.pinned)

    def drop(self, index):
        """Takes a fact away, and returns the news."""
        check_index(index, len(self._now.taken))
        kept = self._now.taken[:index] + self._now.taken[index + 1:]
        return self._change(kept, self._now.named, self._now.pinned)

    def pin(self, pin):
        """Adds a pin, and returns no news."""
        if not self._is_pin(pin) or pin in self._now.pinned:
            raise InvalidOperation("this is no pin about names that are there, or it is there already")
        if len(self._now.pinned) == MAX_PINS:
            raise TooMany(MAX_PINS)
        return self._change(self._now.taken, self._now.named, (*self._now.pinned, pin))

    def unpin(self, pin):
        """Takes a pin away, and returns no news."""
        if not self._is_pin(pin) or pin not in self._now.pinned:
            raise InvalidOperation("this is no pin that is there")
        kept = tuple([other for other in self._now.pinned if other != pin])
        return self._change(self._now.taken, self._now.named, kept)

    def undo(self, *, many=1):
        """Takes the last changes back, and returns the news as of one change."""
        check_undo(many, len(self._before))
        old = self._now
        for _ in range(many):
            self._taken_back.append(self._now)
            self._now = self._before.pop()
        return news_between(old, self._now)

    def redo(self, *, many=1):
        """Makes changes again that were taken back, and returns the news as of one change."""
        check_undo(many, len(self._taken_back))
        old = self._now
        for _ in range(many):
            self._before.append(self._now)
            self._now = self._taken_back.pop()
        return news_between(old, self._now)

    def follows(self, one, other):
        """Whether the second claim follows from the facts and the first one."""
        question = self._question_of(one, other)
        return self._now.truths[one, other] if one != other else does_follow(question)

    def paper(self, one, other):
        """A tree of the question whether the second claim follows from the facts and the first, or what breaks it."""
        return decided(self._question_of(one, other))[1]

    def twin(self):
        """An equal desk with equal histories that goes on by itself."""
        other = Desk(self._frame)
        other._now = self._now
        other._before = list(self._before)
        other._taken_back = list(self._taken_back)
        return other

    def _change(self, facts, claims, pins):
        """Makes a change, and returns the news."""
        new = changed_layout(self._frame, self._now, facts, claims, pins)
        news = news_between(self._now, new)
        self._before.append(self._now)
        self._taken_back = []
        self._now = new
        return news

    def _check_name(self, name):
        """Refuses what is no name of a claim."""
        if name not in self:
            raise UnknownName(name)

    def _is_pin(self, value):
        """Whether the value is a pin about names that are there."""
        if not isinstance(value, tuple) or len(value) < 2 or not all([name in self for name in value[1:]]):
            return False
        if value[0] == "possible":
            return len(value) == 2
        return value[0] in ("follows", "open") and len(value) == 3 and value[1] != value[2]

    def _question_of(self, one, other):
        """The question whether the second claim follows from the facts and the first one."""
        self._check_name(one)
        self._check_name(other)
        question = Question(self._frame, (*self._now.taken, self._now.named[one]), self._now.named[other])
        check_small(question)
        return question

    def __getitem__(self, at):
        if at not in self:
            raise UnknownName(at)
        return self._now.named[at]

    def __contains__(self, value):
        return isinstance(value, str) and value in self._now.named

    def __iter__(self):
        return iter(self._now.named)

    def __len__(self):
        return len(self._now.named)

    def __eq__(self, other):
        if not isinstance(other, Desk) or self._frame != other._frame or self._now.named != other._now.named:
            return False
        return self._now.taken == other._now.taken and self._now.pinned == other._now.pinned

    def __str__(self):
        return f"desk of {len(self)} claims, {len(self._now.taken)} facts, {len(self._now.pinned)} pins"
