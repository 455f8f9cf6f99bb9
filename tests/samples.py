"""Values that several tests use."""

from cellsenough.base.frames import Frame
from cellsenough.errors import InvalidFrame, UnknownName
from cellsenough.world.situations import Situation

FRAME = Frame((("a", "n"),), ("i", "j"), ("x",))
GUARD = ("and", (("pos", "<=", ("", 0), ("k", 0)), ("pos", "<=", ("k", 0), ("i", 0))))
BODY = ("val", "<=", ("a", "k", 0, 0), ("x", 0))
UPTO = ("all", ("k",), GUARD, BODY)
ATOM = ("pos", "<=", ("i", 0), ("j", 1))
SHOWN = Situation(FRAME, {"a": (4, 0, 7)}, {"i": 1, "j": 2}, {"x": 5})
WIDE = Frame((("a", "n"), ("b", "m"), ("c", "n")), ("i", "j"), ("x", "y"))
LONG = 10 ** 60 - 1
TOO_LONG = 10 ** 60


def nested(kind, depth):
    """A value of tuples, lists or dicts that is nested so deep."""
    value = "deep"
    for _ in range(depth):
        value = {"tuple": (value,), "list": [value], "dict": {"key": value}}[kind]
    return value


def not_integers():
    """Values of every kind, none of which is an integer of at most sixty digits."""
    return [
        True, False, None, TOO_LONG, -TOO_LONG, 10 ** 99, -10 ** 99, "", "0", "1", "\n", "A", "z" * 9, "q " * 6000,
        (), (0,), ("and", ()), ((), ()), nested("tuple", 10), [], [1], [[], "q"], ["not"], nested("list", 10), {},
        {"zz": 0}, {1: 2}, {None: ()}, {True: False}, {("zz",): [1]}, nested("dict", 10), FRAME, SHOWN,
        (FRAME,), [SHOWN], {"zz": FRAME}, InvalidFrame("told"), UnknownName("zz"),
    ]


def not_names():
    """Values of every kind, none of which is a name."""
    return [0, 1, -1, LONG, *not_integers(), "a1", "ab c", "aB", " a", "a\n", "i,j", "*1"]


def depth_by_nots(depth):
    """A claim of this depth."""
    claim = ATOM
    for _ in range(depth - 1):
        claim = ("not", claim)
    return claim


def depth_by_ands(depth, inner=ATOM):
    """The inner claim, of the depth 1, in so many ands and ors less one."""
    claim = inner
    for level in range(depth - 1):
        claim = (("and", "or")[level % 2], (inner, claim))
    return claim


def refusal(error, call, *args, **more):
    """The error of exactly this class that the call raises; an AssertionError if it raises none."""
    try:
        result = call(*args, **more)
    except error as caught:
        assert caught.__class__ is error, f"{caught!r} instead of {error}"
        return caught
    raise AssertionError(f"no {error.__name__}, but {result!r}")
