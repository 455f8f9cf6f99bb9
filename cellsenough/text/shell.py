"""A shell, which is told commands as texts, and answers by texts."""

from cellsenough.base.frames import is_name
from cellsenough.base.integers import MOST_DIGITS
from cellsenough.desk.desk import Desk
from cellsenough.errors import InvalidClaim, InvalidNumber, InvalidOperation, InvalidWord, NothingToUndo, ParseError
from cellsenough.errors import Refused, TooMany, UnknownName
from cellsenough.text.texts import read_claim, write_claim
from cellsenough.world.situations import Situation

# How many names stand behind a word.
NAMES = {"remove": 1, "follows": 2, "break": 2, "show": 1, "names": 0, "facts": 0}
PINS = {"follows": 2, "open": 2, "possible": 1}
TRUTHS = {True: "yes", False: "no", None: "-"}


class Shell:
    """A desk that is told what to do by texts."""

    def __init__(self, frame):
        self._desk = Desk(frame)
        # The answers that were no errors.
        self._answers = []

    def desk(self):
        """A twin of its desk."""
        return self._desk.twin()

    def __call__(self, command):
        """Does what a command says, and answers."""
        try:
            answer = self._answer(command)
        except (InvalidWord, InvalidClaim, ParseError):
            return "what"
        except UnknownName as unknown:
            return f"unknown {unknown.wanted}"
        except Refused as refused:
            return f"refused {_words_text(refused.claim)}"
        except TooMany as many:
            return f"many {many.limit}"
        except NothingToUndo as nothing:
            return f"nothing {nothing.many}"
        except (InvalidOperation, InvalidNumber):
            return "no"
        self._answers.append(answer)
        return answer

    def _answer(self, command):
        """The answer to a command; an error if it cannot be done."""
        if not isinstance(command, str):
            raise InvalidWord("this is no text")
        word, _, text = command.partition(" ")
        if word == "enter":
            name, _, text = text.partition(" ")
            _check_names([name], 1)
            return _news_text(self._desk.enter(name, read_claim(self._desk.frame, text)))
        if word == "suppose":
            return _news_text(self._desk.suppose(read_claim(self._desk.frame, text)))
        words = command.split(" ")[1:]
        if word in ("pin", "unpin"):
            return self._answer_to_pin(word, words)
        if word in ("drop", "undo", "redo"):
            return self._answer_to_number(word, words)
        if word not in NAMES:
            raise InvalidWord("this is no command")
        _check_names(words, NAMES[word])
        return self._answer_to_names(word, words)

    def _answer_to_pin(self, word, words):
        """The answer to a command about a pin."""
        if len(words) == 0 or words[0] not in PINS:
            raise InvalidWord("this is no pin")
        _check_names(words[1:], PINS[words[0]])
        if word == "pin":
            return _news_text(self._desk.pin(tuple(words)))
        return _news_text(self._desk.unpin(tuple(words)))

    def _answer_to_number(self, word, words):
        """The answer to a command with a number."""
        if len(words) > 1 or (word == "drop" and len(words) == 0):
            raise InvalidWord("a number is needed")
        number = _number_of(words[0]) if words else 1
        if word == "drop":
            return _news_text(self._desk.drop(number))
        if word == "undo":
            return _news_text(self._desk.undo(many=number))
        return _news_text(self._desk.redo(many=number))

    def _answer_to_names(self, word, words):
        """The answer to a command with as many names as it needs."""
        if word == "remove":
            return _news_text(self._desk.remove(words[0]))
        if word == "follows":
            return TRUTHS[self._desk.follows(*words)]
        if word == "break":
            told = self._desk.paper(*words)
            return str(told) if isinstance(told, Situation) else "none"
        if word == "show":
            return write_claim(self._desk.frame, self._desk[words[0]])
        if word == "names":
            return _words_text(list(self._desk)) or "none"
        return " & ".join([write_claim(self._desk.frame, fact) for fact in self._desk.facts]) or "none"

    def __len__(self):
        return len(self._answers)

    def __str__(self):
        return f"shell of {len(self._answers)} commands"


def _check_names(words, many):
    """Refuses words that are not as many names."""
    if len(words) != many or not all([is_name(word) for word in words]):
        raise InvalidWord("these are not the names that are needed")


def _number_of(word):
    """The number that a word is."""
    if len(word) > MOST_DIGITS or not word.isascii() or not word.isdigit() or (word[0] == "0" and word != "0"):
        raise InvalidWord("this is no number")
    return int(word)


def _words_text(words):
    """The words with blanks between them."""
    return " ".join(words)


def _news_text(news):
    """The text of news."""
    told = [f"{one} {other} {TRUTHS[old]} {TRUTHS[new]}" for one, other, old, new in news]
    return ", ".join(told) or "none"
