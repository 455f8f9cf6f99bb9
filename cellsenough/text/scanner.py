"""A text that is read sign by sign, and the names, numbers and terms in it.

What is read is told by what can stand at a place, so the first sign that fits nothing is the one that is wrong.
"""

from cellsenough.base.frames import LETTERS, LONGEST_NAME
from cellsenough.base.integers import DIGITS, MOST_DIGITS
from cellsenough.errors import ParseError

# A name of so many letters can be gone on with in more ways than a frame has names.
SHORT = LONGEST_NAME - 2


class Scanner:
    """A text for a frame, and the index of the sign that is next."""

    def __init__(self, frame, text):
        self.basis = frame
        self.at = 0
        self._text = text

    def next_sign(self):
        """The next sign, or "" at the end."""
        return self._text[self.at:self.at + 1]

    def is_at(self, text):
        """Whether this text is next."""
        return self._text.startswith(text, self.at)

    def is_at_letter(self):
        """Whether a letter is next."""
        return self.next_sign() != "" and self.next_sign() in LETTERS

    def finish(self):
        """Refuses a text that goes on."""
        if self.at < len(self._text):
            raise ParseError(self.at)

    def literal(self, text):
        """Reads this text."""
        self.choice((text,))

    def choice(self, options):
        """Reads one of these texts, none of which begins with another one, and returns it."""
        read = ""
        while read not in options:
            sign = self.next_sign()
            if sign == "" or not any([option.startswith(read + sign) for option in options]):
                raise ParseError(self.at)
            read = read + sign
            self.at += 1
        return read

    def word(self, words):
        """Reads one of these words, which may begin with others of them, and returns it."""
        read = ""
        while self.is_at_letter():
            read = read + self.next_sign()
            if not any([word.startswith(read) for word in words]):
                raise ParseError(self.at)
            self.at += 1
        if read not in words:
            raise ParseError(self.at)
        return read

    def fresh_name(self, taken):
        """Reads a name that is fresh for the frame and not taken, and returns it."""
        read = ""
        while self.is_at_letter():
            read = read + self.next_sign()
            if not self._can_be_fresh(read, taken):
                raise ParseError(self.at)
            self.at += 1
        if not self._is_free(read, taken):
            raise ParseError(self.at)
        return read

    def number(self):
        """Reads a number that stands alone."""
        if self.next_sign() == "0":
            self.at += 1
            return 0
        return self._signed(("-",))

    def more(self):
        """Reads the number behind a name or a cell, which is left out if it is 0."""
        return self._signed(("+", "-")) if self.next_sign() in ("+", "-") else 0

    def position(self, own):
        """Reads a position term, in which own names stand without a number."""
        if not self.is_at_letter():
            return ("", self.number())
        name = self.word((*own, *self.basis.positions, *self.basis.lengths))
        return (name, 0 if name in own else self.more())

    def amount(self, own):
        """Reads a value term."""
        if not self.is_at_letter():
            return ("", self.number())
        return self.amount_of(self.word((*self.basis.amounts, *[array for array, _ in self.basis.arrays])), own)

    def amount_of(self, name, own):
        """Reads what stands in a value term behind the name of a value or an array."""
        if self.basis.kind_of(name) == "value":
            return (name, self.more())
        self.literal("[")
        place = self.position(own)
        self.literal("]")
        return (name, *place, self.more())

    def _signed(self, signs):
        """Reads a number other than 0, perhaps with one of the signs ahead of it."""
        sign = self.next_sign()
        if sign in signs:
            self.at += 1
        digits = ""
        while self.next_sign() != "" and self.next_sign() in DIGITS and len(digits) < MOST_DIGITS:
            if digits + self.next_sign() == "0":
                break
            digits = digits + self.next_sign()
            self.at += 1
        if digits == "":
            raise ParseError(self.at)
        return -int(digits) if sign == "-" else int(digits)

    def _is_free(self, name, taken):
        """Whether the name is fresh, and not taken."""
        return self.basis.is_fresh(name) and name not in taken

    def _can_be_fresh(self, start, taken):
        """Whether a name that begins so can be fresh, and not taken."""
        if len(start) <= SHORT or self._is_free(start, taken):
            return True
        return len(start) < LONGEST_NAME and any([self._is_free(start + letter, taken) for letter in LETTERS])
