"""All classes of errors."""


def copied(value):
    """A value that is equal, and shares no list and no dict with the given one."""
    if isinstance(value, list):
        return [copied(part) for part in value]
    if isinstance(value, tuple):
        return tuple([copied(part) for part in value])
    if isinstance(value, dict):
        return {key: copied(value[key]) for key in value}
    return value


class ClaimError(ValueError):
    """What the errors about invalid arguments have in common."""


class InvalidFrame(ClaimError):
    """A frame is needed, and this is none."""


class InvalidTerm(ClaimError):
    """A term, or own names for one, are needed, and this is none."""


class InvalidClaim(ClaimError):
    """A claim, or claims, are needed, and this is none."""


class InvalidSituation(ClaimError):
    """A situation is needed, and this is none."""


class InvalidQuestion(ClaimError):
    """A question is needed, and this is none."""


class InvalidProgram(ClaimError):
    """A program is needed, and this is none."""


class InvalidWord(ClaimError):
    """A word is needed, and this is none."""


class InvalidOperation(ClaimError):
    """What is asked for cannot be done."""


class ParseError(ClaimError):
    """A text cannot be read; `at` is the index at which it goes wrong."""

    def __init__(self, at):
        self.at = at


class InvalidNumber(IndexError):
    """A number is needed, and `given` is none."""

    def __init__(self, given):
        self.given = copied(given)


class UnknownName(KeyError):
    """There is nothing with the name `wanted`."""

    def __init__(self, wanted):
        self.wanted = copied(wanted)


class NothingToUndo(LookupError):
    """There are not as many as `many` things to take back."""

    def __init__(self, many):
        self.many = many


class TooMany(OverflowError):
    """There is more of something than the number `limit`."""

    def __init__(self, limit):
        self.limit = limit


class Refused(ArithmeticError):
    """`claim` shows why this is not taken."""

    def __init__(self, claim):
        self.claim = copied(claim)
