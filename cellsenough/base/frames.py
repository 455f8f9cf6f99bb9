"""Names, and frames with arrays, positions and values."""

from cellsenough.base.integers import is_integer
from cellsenough.errors import InvalidFrame, InvalidNumber, InvalidOperation, InvalidTerm, UnknownName

LETTERS = "abcdefghijklmnopqrstuvwxyz"
LONGEST_NAME = 8
MAX_ARRAYS = 12
MAX_POSITIONS = 6
MAX_VALUES = 6
MAX_OWN = 2


def is_name(value):
    """Whether the value is a name."""
    if not isinstance(value, str) or not 1 <= len(value) <= LONGEST_NAME:
        return False
    return value.isascii() and value.isalpha() and value.islower()


def are_own_names(frame, value):
    """Whether the value is a tuple of at most two different names that are fresh for the frame."""
    if not isinstance(value, tuple) or len(value) > MAX_OWN:
        return False
    return all([frame.is_fresh(name) for name in value]) and len(set(value)) == len(value)


def check_frame(frame):
    """Refuses what is no frame."""
    if not isinstance(frame, Frame):
        raise InvalidFrame("this is no frame")


def _check_own(frame, own):
    """Refuses what cannot be own names."""
    if not are_own_names(frame, own):
        raise InvalidTerm("these are not at most two different fresh names")


def _are_names(value, most):
    """Whether the value is a tuple of at most so many names."""
    return isinstance(value, tuple) and len(value) <= most and all([is_name(part) for part in value])


def _is_array(value):
    """Whether the value is a pair of an array and its length."""
    return isinstance(value, tuple) and len(value) == 2 and _are_names(value, 2)


def _are_arrays(value):
    """Whether the value can be the arrays of a frame."""
    return isinstance(value, tuple) and len(value) <= MAX_ARRAYS and all([_is_array(part) for part in value])


def _kinds_of(arrays, positions, values):
    """A dict from all names to their kinds. A name that stands twice is in it once."""
    kinds = {}
    for array, length in arrays:
        kinds[array] = "array"
        kinds[length] = "length"
    for name in positions:
        kinds[name] = "position"
    for name in values:
        kinds[name] = "value"
    return kinds


def _with_blanks(words):
    """The words with blanks between them, or a dash if there are none."""
    return " ".join(words) or "-"


class Frame:
    """The arrays with their lengths, the positions and the values that claims are about."""

    def __init__(self, arrays, positions, values):
        if not _are_arrays(arrays) or not _are_names(positions, MAX_POSITIONS) or not _are_names(values, MAX_VALUES):
            raise InvalidFrame("this is not arrays, positions and values")
        self._arrays = arrays
        self._positions = positions
        self._amounts = values
        self._length_by_array = dict(arrays)
        self._lengths = tuple({length: True for _, length in arrays})
        self._kinds = _kinds_of(arrays, positions, values)
        if len(self._kinds) < len(arrays) + len(self._lengths) + len(positions) + len(values):
            raise InvalidFrame("a name stands twice")

    @property
    def arrays(self):
        """The pairs of an array and its length."""
        return self._arrays

    @property
    def positions(self):
        """The names of the positions."""
        return self._positions

    @property
    def amounts(self):
        """The names of the values."""
        return self._amounts

    @property
    def lengths(self):
        """The different names of lengths."""
        return self._lengths

    def length_of(self, array):
        """The name of the length of an array."""
        if not self._is_of_kind(array, "array"):
            raise UnknownName(array)
        return self._length_by_array[array]

    def kind_of(self, name):
        """The kind of thing that has this name."""
        if name not in self:
            raise UnknownName(name)
        return self._kinds[name]

    def is_fresh(self, value):
        """Whether the value is a name, but none of the frame."""
        return is_name(value) and value not in self._kinds

    def is_position_term(self, value, *, own=()):
        """Whether the value is a position term, where the own names count as positions."""
        _check_own(self, own)
        return self.has_place(value, own)

    def is_value_term(self, value, *, own=()):
        """Whether the value is a value term, where the own names count as positions."""
        _check_own(self, own)
        return self.has_amount(value, own)

    def shifted(self, term, number):
        """The position term or value term with so much more."""
        if not self.is_position_term(term) and not self.is_value_term(term):
            raise InvalidTerm("this is neither a position term nor a value term")
        if not is_integer(number):
            raise InvalidNumber(number)
        total = term[-1] + number
        if not is_integer(total):
            raise InvalidTerm("the number of the term would be too long")
        return (*term[:-1], total)

    def with_names(self, *, arrays=(), positions=(), values=()):
        """The frame with more arrays, positions and values behind its own ones."""
        if not isinstance(arrays, tuple) or not isinstance(positions, tuple) or not isinstance(values, tuple):
            raise InvalidFrame("these are not tuples")
        return Frame(self._arrays + arrays, self._positions + positions, self._amounts + values)

    def renamed(self, names):
        """The frame with other names in the place of some."""
        if not isinstance(names, dict) or not all([name in self and is_name(names[name]) for name in names]):
            raise InvalidOperation("this is no dict from names of the frame to names")
        new = {name: names.get(name, name) for name in self._kinds}
        # Two lengths that get one name would still be a frame, so the names are compared here.
        if len(set(list(new.values()))) < len(new):
            raise InvalidOperation("names would be equal")
        arrays = tuple([(new[array], new[length]) for array, length in self._arrays])
        positions = tuple([new[name] for name in self._positions])
        return Frame(arrays, positions, tuple([new[name] for name in self._amounts]))

    def has_place(self, value, own):
        """The same as `is_position_term`, for own names that are right ones."""
        if not isinstance(value, tuple) or len(value) != 2 or not is_integer(value[1]):
            return False
        name = value[0]
        return name == "" or name in own or self._is_of_kind(name, "position") or self._is_of_kind(name, "length")

    def has_amount(self, value, own):
        """The same as `is_value_term`, for own names that are right ones."""
        if not isinstance(value, tuple):
            return False
        if len(value) == 4:
            return self._is_of_kind(value[0], "array") and self.has_place(value[1:3], own) and is_integer(value[3])
        return len(value) == 2 and (value[0] == "" or self._is_of_kind(value[0], "value")) and is_integer(value[1])

    def _is_of_kind(self, value, kind):
        """Whether the value is a name of this kind."""
        return isinstance(value, str) and self._kinds.get(value) == kind

    def __contains__(self, value):
        return isinstance(value, str) and value in self._kinds

    def __len__(self):
        return len(self._kinds)

    def __eq__(self, other):
        if not isinstance(other, Frame):
            return False
        return (self._arrays, self._positions, self._amounts) == (other._arrays, other._positions, other._amounts)

    def __str__(self):
        arrays = _with_blanks([f"{array}:{length}" for array, length in self._arrays])
        return f"{arrays} | {_with_blanks(self._positions)} | {_with_blanks(self._amounts)}"
