"""Outlines that several tests use, and random ones."""

from cellsenough.base.frames import Frame
from cellsenough.code.program import Outline, Program
from cellsenough.errors import InvalidOperation, TooMany
from cellsenough.logic.claims import all_between, in_order
from samples import FRAME
from test_program import FILL
from test_truth import PAIR, Maker

I, J, N, X, ZERO = ("i", 0), ("j", 0), ("n", 0), ("x", 0), ("", 0)
UP = in_order(FRAME, "a", ("", 0), ("n", -1))
LOW = all_between(FRAME, ("", 0), ("n", -1), "<=", ("a", "", 0, 0), ("a", "k", 0, 0))
SAME = all_between(FRAME, ZERO, ("i", -1), "==", ("a", "k", 0, 0), X)
FROM_ZERO, TO_END = ("pos", "<=", ZERO, I), ("pos", "<=", I, N)
FILLED = Outline(FILL, notes=((SAME, FROM_ZERO, TO_END),), after=(LOW,))
WEAK = FILLED.with_notes(0, (SAME,))
SOME = ((SAME, ("pos", "<", I, N), FROM_ZERO, TO_END),)


def le(one, other):
    return ("pos", "<=", one, other)


def lt(one, other):
    return ("pos", "<", one, other)


def cell(name, shift=0, number=0, array="a"):
    return (array, name, shift, number)


def crossing(ahead, behind):
    """All cells of the first stretch are at most those of the second one."""
    parts = (le(ahead[0], ("k", 0)), le(("k", 0), ahead[1]), le(behind[0], ("l", 0)), le(("l", 0), behind[1]))
    return ("all", ("k", "l"), ("and", parts), ("val", "<=", cell("k"), cell("l")))


def insertion():
    """Insertion sort: a loop in a loop, with a condition whose second part reads a cell."""
    inner = ("while", ("and", (lt(ZERO, J), ("val", "<", X, cell("j", -1)))),
             (("write", "a", "j", 0, cell("j", -1)), ("move", "j", ("j", -1))))
    turn = (("keep", "x", cell("i")), ("move", "j", I), inner, ("write", "a", "j", 0, X), ("move", "i", ("i", 1)))
    program = Program(FRAME, (("move", "i", ("", 1)), ("while", lt(I, N), turn)))
    outer = (le(("", 1), I), le(I, N), in_order(FRAME, "a", ZERO, ("i", -1)))
    notes = (le(ZERO, J), le(J, I), le(("", 1), I), lt(I, N), in_order(FRAME, "a", ZERO, ("j", -1)),
             in_order(FRAME, "a", ("j", 1), I), crossing((ZERO, ("j", -1)), (("j", 1), I)),
             all_between(FRAME, ("j", 1), I, "<", X, cell("k")))
    return Outline(program, before=(le(("", 1), N),), notes=(outer, notes), after=(UP,))


def greatest():
    """The greatest cell: an if in a loop."""
    turn = (("if", ("val", "<", X, cell("i")), (("keep", "x", cell("i")),), ()), ("move", "i", ("i", 1)))
    program = Program(FRAME, (("keep", "x", cell("")), ("move", "i", ("", 1)), ("while", lt(I, N), turn)))
    upto = all_between(FRAME, ZERO, ("i", -1), "<=", cell("k"), X)
    inside = ("not", ("all", ("k",), ("and", (le(ZERO, ("k", 0)), le(("k", 0), ("i", -1)))), ("not", ("val", "==", cell("k"), X))))
    return Outline(program, before=(le(("", 1), N),), notes=((le(("", 1), I), le(I, N), upto, inside),),
                   after=(all_between(FRAME, ZERO, ("n", -1), "<=", cell("k"), X),))


def behind_one_another():
    """Two loops behind one another: one fills an array, one copies it."""
    frame = Frame((("a", "n"), ("b", "n")), ("i",), ("x",))
    turns = ((("write", "a", "i", 0, X), ("move", "i", ("i", 1))), (("write", "b", "i", 0, cell("i")), ("move", "i", ("i", 1))))
    rows = []
    for turn in turns:
        rows.extend([("move", "i", ZERO), ("while", lt(I, N), turn)])
    bounds = (le(ZERO, I), le(I, N))
    filled = all_between(frame, ZERO, ("n", -1), "==", cell("k"), X)
    notes = ((*bounds, all_between(frame, ZERO, ("i", -1), "==", cell("k"), X)),
             (*bounds, filled, all_between(frame, ZERO, ("i", -1), "==", cell("k", array="b"), X)))
    return Outline(Program(frame, tuple(rows)), notes=notes, after=(filled, all_between(frame, ZERO, ("n", -1), "==", cell("k", array="b"), X)))


class Outlines(Maker):
    """Random rows and outlines for PAIR."""

    def condition(self, depth):
        kind = self.random.randrange(5) if depth else self.random.randrange(2)
        if kind == 0:
            return ("pos", self.random.choice(("<", "<=", "==")), self.place(), self.place())
        if kind == 1:
            return ("val", self.random.choice(("<", "<=", "==")), self.amount(()), self.amount(()))
        if kind == 2:
            return ("not", self.condition(depth - 1))
        return (("and", "or")[kind - 3], tuple([self.condition(depth - 1) for _ in range(self.random.randrange(4))]))

    def rows(self, depth, most=3):
        return tuple([self.row(depth) for _ in range(self.random.randrange(most + 1))])

    def row(self, depth):
        kind = self.random.randrange(7) if depth else self.random.randrange(4)
        if kind == 0:
            return ("move", self.random.choice("ij"), self.place())
        if kind == 1:
            return ("keep", "x", self.amount(()))
        if kind < 4:
            return ("write", self.random.choice("ab"), *self.place(), self.amount(()))
        if kind == 4:
            return ("while", self.condition(2), self.rows(depth - 1))
        return ("if", self.condition(2), self.rows(depth - 1), self.rows(depth - 1) if kind == 5 else ())

    def claims(self, most=2):
        return tuple([self.claim(1) for _ in range(self.random.randrange(most + 1))])

    def outline(self):
        while True:
            rows = self.rows(2)
            if Limits(rows).are_kept():
                program = Program(PAIR, rows)
                notes = tuple([self.claims() for _ in program.conditions])
                return Outline(program, before=self.claims(), notes=notes, after=self.claims())


class Limits:
    """How many rows, loops and writes there are in rows."""

    def __init__(self, rows):
        self.words = []
        self.count(rows)

    def count(self, rows):
        for row in rows:
            self.words.append(row[0])
            for inner in row[2:] if row[0] in ("if", "while") else ():
                self.count(inner)

    def are_kept(self):
        many = self.words.count
        return len(self.words) <= 12 and many("while") <= 4 and many("write") <= 6 and many("if") <= 4


def refused_sizes(call, *args):
    """What a call gives, or None if it refuses what is too large."""
    try:
        return call(*args)
    except (TooMany, InvalidOperation):
        return None
