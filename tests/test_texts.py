import random
import unittest

from cellsenough.base.frames import Frame
from cellsenough.code.program import Program
from cellsenough.errors import InvalidClaim, InvalidFrame, InvalidProgram, ParseError
from cellsenough.logic.claims import renamed_claim
from cellsenough.text.texts import read_claim, read_rows, write_claim, write_rows
from outlines import FILLED, LOW, UP, Outlines, behind_one_another, greatest, insertion
from samples import ATOM, FRAME, LONG, UPTO, depth_by_ands, depth_by_nots, not_names, refusal
from test_program import FILL, NUMBERED
from test_truth import PAIR

LETTERS = "abcdefghijklmnopqrstuvwxyz"
# Every word of the texts is a name of this frame.
WORDS = Frame((("all", "if"), ("or", "else")), ("not", "while"), ("and", "a"))
EMPTY = Frame((), (), ())


class Grammar:
    """The texts of the claims or rows of a frame, by the words of the document, as what can still come.

    What can still come is a set of tuples: signs, and symbols, which stand for what is to be chosen.
    """

    def __init__(self, frame):
        self.frame = frame

    def choices(self, symbol):
        """All that a symbol can be, as tuples of signs and symbols."""
        kind, *told = symbol
        return [tuple(choice) for choice in getattr(self, kind)(*told)]

    def seq(self, *parts):
        """Texts and symbols as one tuple."""
        found = []
        for part in parts:
            found.extend(part if isinstance(part, str) else [part])
        return found

    def digits(self, left):
        """No more digits, or one more."""
        return [[]] + [[digit, ("digits", left - 1)] for digit in "0123456789" if left]

    def natural(self):
        return [[digit, ("digits", 59)] for digit in "123456789"]

    def number(self):
        return [["0"], [("natural",)], ["-", ("natural",)]]

    def more(self):
        return [[], ["+", ("natural",)], ["-", ("natural",)]]

    def place(self, own):
        names = [*self.frame.positions, *self.frame.lengths]
        return [[("number",)], *[self.seq(name, ("more",)) for name in names], *[list(name) for name in own]]

    def amount(self, own):
        cells = [self.seq(array, "[", ("place", own), "]", ("more",)) for array, _ in self.frame.arrays]
        return [[("number",)], *[self.seq(name, ("more",)) for name in self.frame.amounts], *cells]

    def claim(self, role, own):
        found = []
        if role == "guard":
            for op in ("<=", "=="):
                for name in own:
                    found.append(self.seq("[", name, f" {op} ", ("place", own), "]"))
                    found.append(self.seq("[", ("place", own), f" {op} ", name, "]"))
        else:
            for op in ("<=", "<", "=="):
                found.append(self.seq(("amount", own), f" {op} ", ("amount", own)))
                if role != "body":
                    found.append(self.seq("[", ("place", ()), f" {op} ", ("place", ()), "]"))
            found.append(self.seq("not(", ("claim", role, own), ")"))
        for word in ("and", "or"):
            found.extend([self.seq(word, "()"), self.seq(word, "(", ("claim", role, own), ("others", role, own))])
        if role == "claim":
            found.append(self.seq("all ", ("first", "")))
        return found

    def others(self, role, own):
        return [[")"], self.seq(", ", ("claim", role, own), ("others", role, own))]

    def first(self, read):
        more = [[letter, ("first", read + letter)] for letter in LETTERS if self.can_be(read + letter, ())]
        ends = [self.seq(", ", ("second", read, "")), self.seq(" (", ("inner", (read,)))] if self.is_free(read, ()) else []
        return more + ends

    def second(self, first, read):
        more = [[letter, ("second", first, read + letter)] for letter in LETTERS if self.can_be(read + letter, (first,))]
        return more + ([self.seq(" (", ("inner", (first, read)))] if self.is_free(read, (first,)) else [])

    def inner(self, own):
        return [self.seq(("claim", "guard", own), " -> ", ("claim", "body", own), ")")]

    def is_free(self, name, taken):
        return self.frame.is_fresh(name) and name not in taken

    def can_be(self, start, taken):
        if len(start) > 8:
            return False
        return len(start) < 7 or self.is_free(start, taken) or any(self.can_be(start + letter, taken) for letter in LETTERS)

    def rows(self):
        return [[("row",)], self.seq(("row",), "; ", ("rows",))]

    def block(self):
        return [list("{ }"), self.seq("{ ", ("rows",), " }")]

    def row(self):
        found = [self.seq(name, " = ", ("place", ())) for name in self.frame.positions]
        found.extend([self.seq(name, " = ", ("amount", ())) for name in self.frame.amounts])
        found.extend([self.seq(array, "[", ("place", ()), "] = ", ("amount", ())) for array, _ in self.frame.arrays])
        test = ("claim", "condition", ())
        return [*found, self.seq("if ", test, " ", ("block",), " else ", ("block",)), self.seq("while ", test, " ", ("block",))]

    def begun(self, states):
        """The states with all choices made that come ahead of a sign."""
        found, left = set(), list(states)
        while left:
            state = left.pop()
            if state and isinstance(state[0], tuple):
                left.extend([choice + state[1:] for choice in self.choices(state[0])])
            else:
                found.add(state)
        return found

    def wrong_at(self, start, text):
        """The index of the first sign that is wrong, the length if the text ends too early, or None if it is right."""
        states = self.begun({start})
        for at, sign in enumerate(text):
            states = self.begun({state[1:] for state in states if state and state[0] == sign})
            if not states:
                return at
        return None if () in states else len(text)


CLAIM, ROWS = (("claim", "claim", ()),), (("rows",),)


def changed(maker, text):
    """A text with a sign or a few changed."""
    signs = list(text)
    for _ in range(maker.choice((1, 1, 2))):
        at = maker.randrange(len(signs) + 1)
        kind = maker.randrange(5)
        if kind == 0 and at < len(signs):
            del signs[at]
        elif kind == 1:
            signs.insert(at, maker.choice(" ,()[]<=->+-;{}0123456789aklmnotdrifwhesxj"))
        elif kind == 2 and at < len(signs):
            signs[at] = maker.choice(" ,()[]<=->+-;{}0189aknotdrifwhelsxj")
        elif kind == 3:
            del signs[at:]
        else:
            other = maker.randrange(len(signs) + 1)
            signs[at:at] = signs[other:other + maker.randrange(1, 9)]
    return "".join(signs)


class Written(unittest.TestCase):
    def check(self, frame, claim, text):
        self.assertEqual(write_claim(frame, claim), text)
        self.assertEqual(read_claim(frame, text), claim)

    def test_terms(self):
        for term, text in ((("i", 0), "i"), (("i", 1), "i+1"), (("i", -2), "i-2"), (("", 7), "7"), (("", -1), "-1"), (("", 0), "0"),
                           (("n", LONG), f"n+{LONG}"), (("", -LONG), f"-{LONG}"), (("j", -LONG), f"j-{LONG}")):
            self.check(FRAME, ("pos", "<=", term, ("j", 1)), f"[{text} <= j+1]")
            self.check(FRAME, ("pos", "==", ("j", 1), term), f"[j+1 == {text}]")
            self.check(FRAME, ("val", "<", ("a", *term, 2), ("x", -1)), f"a[{text}]+2 < x-1")
        for term, text in ((("x", 0), "x"), (("x", 30), "x+30"), (("", 0), "0"), (("a", "i", 1, 0), "a[i+1]"), (("a", "", 0, 2), "a[0]+2"),
                           (("a", "", -1, -2), "a[-1]-2"), (("a", "n", 0, LONG), f"a[n]+{LONG}")):
            self.check(FRAME, ("val", "==", term, ("x", 0)), f"{text} == x")
            self.check(FRAME, ("val", "<=", ("", 5), term), f"5 <= {text}")

    def test_claims(self):
        self.check(FRAME, ("not", ATOM), "not([i <= j+1])")
        self.check(FRAME, ("and", ()), "and()")
        self.check(FRAME, ("or", ()), "or()")
        self.check(FRAME, ("or", (ATOM,)), "or([i <= j+1])")
        self.check(FRAME, ("and", (ATOM, ("or", ()), ("not", ("and", ())))), "and([i <= j+1], or(), not(and()))")
        self.check(FRAME, UPTO, "all k (and([0 <= k], [k <= i]) -> a[k] <= x)")
        self.check(FRAME, LOW, "all k (and([0 <= k], [k <= n-1]) -> a[0] <= a[k])")
        self.check(FRAME, UP, "all k, jj (and([0 <= k], [k <= jj], [jj <= n-1]) -> a[k] <= a[jj])")
        guard = ("or", (("pos", "==", ("k", 0), ("l", 0)), ("and", ())))
        body = ("not", ("or", (("val", "<", ("a", "k", 0, 1), ("a", "l", 0, 0)), ("and", ()))))
        self.check(FRAME, ("all", ("l", "k"), guard, body), "all l, k (or([k == l], and()) -> not(or(a[k]+1 < a[l], and())))")
        self.check(FRAME, ("all", ("all",), ("and", ()), ("or", ())), "all all (and() -> or())")

    def test_rows(self):
        for rows, text in [
            ((), ""), ((("move", "i", ("j", 1)),), "i = j+1"), ((("keep", "x", ("a", "i", 0, 0)),), "x = a[i]"),
            ((("write", "a", "i", 0, ("x", 0)),), "a[i] = x"), ((("write", "a", "", -1, ("", -1)),), "a[-1] = -1"),
            ((("if", ATOM, (), ()),), "if [i <= j+1] { } else { }"), ((("while", ("and", ()), ()),), "while and() { }"),
            ((("if", ATOM, (("move", "i", ("", 0)),), ()), ("move", "j", ("n", -1))), "if [i <= j+1] { i = 0 } else { }; j = n-1"),
            ((("if", ATOM, (), (("while", ATOM, (("move", "i", ("", 0)), ("keep", "x", ("x", 1)))),)),),
             "if [i <= j+1] { } else { while [i <= j+1] { i = 0; x = x+1 } }"),
        ]:
            self.assertEqual(write_rows(Program(FRAME, rows)), text)
            self.assertEqual(read_rows(FRAME, text), Program(FRAME, rows))
        self.assertEqual(write_rows(FILL), "i = 0; while [i < n] { a[i] = x; i = i+1 }")
        self.assertEqual(read_rows(FRAME, write_rows(Program(FRAME, NUMBERED))), Program(FRAME, NUMBERED))

    def test_names_that_are_words(self):
        for claim, text in [
            (("val", "<", ("and", 0), ("a", 0)), "and < a"), (("val", "==", ("and", 1), ("all", "not", 0, 0)), "and+1 == all[not]"),
            (("val", "<=", ("or", "while", 2, -1), ("or", "else", 0, 0)), "or[while+2]-1 <= or[else]"),
            (("pos", "<", ("not", 1), ("if", -1)), "[not+1 < if-1]"), (("not", ("and", (("val", "<", ("and", 0), ("and", 0)),))), "not(and(and < and))"),
            (("all", ("k",), ("and", ()), ("val", "<", ("all", "k", 0, 0), ("and", 0))), "all k (and() -> all[k] < and)"),
        ]:
            self.check(WORDS, claim, text)
        all_is_value = Frame((("if", "n"),), ("else",), ("all", "an", "no"))
        for claim, text in [
            (("val", "<", ("all", 0), ("all", 0)), "all < all"), (("val", "==", ("all", 0), ("an", 0)), "all == an"),
            (("val", "<=", ("all", -1), ("no", 0)), "all-1 <= no"),
            (("all", ("al",), ("and", ()), ("val", "<", ("all", 0), ("if", "al", 0, 0))), "all al (and() -> all < if[al])"),
        ]:
            self.check(all_is_value, claim, text)
        for rows, text in [
            ((("move", "if", ("while", 0)), ("move", "while", ("if", 1))), "if = while; while = if+1"),
            ((("if", ("pos", "<", ("if", 0), ("while", 0)), (("move", "if", ("", 0)),), ()),), "if [if < while] { if = 0 } else { }"),
            ((("while", ("val", "<", ("not", 0), ("", 0)), (("keep", "not", ("all", "if", 0, 0)),)), ("write", "all", "while", 0, ("not", 1))),
             "while not < 0 { not = all[if] }; all[while] = not+1"),
        ]:
            frame = Frame((("all", "n"),), ("if", "while"), ("not",))
            self.assertEqual([write_rows(Program(frame, rows)), read_rows(frame, text).rows], [text, rows])
        frame = Frame((("if", "n"), ("while", "m")), (), ("v",))
        rows = (("write", "if", "n", 1, ("v", 0)), ("if", ("and", ()), (("write", "while", "", 0, ("", 1)),), ()))
        self.assertEqual(write_rows(Program(frame, rows)), "if[n+1] = v; if and() { while[0] = 1 } else { }")
        self.assertEqual(read_rows(frame, write_rows(Program(frame, rows))).rows, rows)

    def test_random(self):
        for seed in range(500):
            maker = Outlines(seed)
            claim = maker.claim(3)
            self.assertEqual(read_claim(PAIR, write_claim(PAIR, claim)), claim)
            program = Program(PAIR, maker.outline().program.rows)
            self.assertEqual(read_rows(PAIR, write_rows(program)), program)
        for outline in (FILLED, insertion(), greatest(), behind_one_another()):
            self.assertEqual(read_rows(outline.frame, write_rows(outline.program)), outline.program)

    def test_errors(self):
        for value in not_names():
            if value != FRAME:
                refusal(InvalidFrame, write_claim, value, None)
                refusal(InvalidFrame, read_claim, value, None)
                refusal(InvalidFrame, read_rows, value, None)
            if value != ("and", ()):
                refusal(InvalidClaim, write_claim, FRAME, value)
            refusal(InvalidProgram, write_rows, value)
            if not isinstance(value, str):
                for call in (read_claim, read_rows):
                    self.assertIsNone(refusal(ParseError, call, FRAME, value).at)
        refusal(InvalidClaim, write_claim, FRAME, depth_by_nots(13))
        refusal(InvalidProgram, write_rows, FILLED)


class Wrong(unittest.TestCase):
    def at(self, text, at, frame=FRAME):
        with self.subTest(text):
            self.assertEqual(refusal(ParseError, read_claim, frame, text).at, at)
            self.assertEqual(Grammar(frame).wrong_at(CLAIM, text), at)

    def rows_at(self, text, at, frame=FRAME):
        with self.subTest(text):
            self.assertEqual(refusal(ParseError, read_rows, frame, text).at, at)
            self.assertEqual(Grammar(frame).wrong_at(ROWS, text), at)

    def test_signs_that_do_not_fit(self):
        for text, at in [
            ("", 0), (" ", 0), ("x", 1), ("x ", 2), ("x <", 3), ("x < ", 4), ("x < y", 4), ("x  < 3", 2), ("x< 3", 1), ("x <3", 3), ("x > 3", 2),
            ("x = 3", 3), ("x === 3", 4), ("x < 3 ", 5), ("x < 3)", 5), ("X < 3", 0), ("\nx < 3", 0), ("x+0 < 3", 2), ("x+01 < 3", 2), ("x- < 3", 2),
            ("x-0 < 3", 2), ("x+-1 < 3", 2), ("x++1 < 3", 2), ("00 < x", 1), ("-0 < x", 1), ("+1 < x", 0), ("--1 < x", 1), ("01 < x", 1),
            ("i < 3", 0), ("n < 3", 1), ("a < 3", 1), ("a[x] < 3", 2), ("a[i < 3", 3), ("a[] < 3", 2), ("a[i]] < 3", 4), ("a[a[i]] < 3", 2),
            ("a[i]1 < 3", 4), ("a[i+] < 3", 4), ("[x < i]", 1), ("[i < x]", 5), ("[a[i] < i]", 1), ("[i < j", 6), ("[i < j]]", 7), ("[ i < j]", 1),
            ("[i < j ]", 6), ("[i < 3x]", 6), ("not", 3), ("not (", 3), ("not(", 4), ("not()", 4), ("not(x < 3", 9), ("not(x < 3,", 9), ("nott(", 3),
            ("and(", 4), ("and(x < 3", 9), ("and(x < 3,x", 10), ("and(x < 3, )", 11), ("and( )", 4), ("and)", 3), ("or(,)", 3), ("xor()", 1), ("b", 0),
        ]:
            self.at(text, at)

    def test_alls(self):
        for text, at in [
            ("all", 3), ("all ", 4), ("all(", 3), ("all  k", 4), ("all k", 5), ("all i (", 5), ("all i, k", 5), ("all ii, k (", 11), ("all k,l", 6),
            ("all k, k (", 8), ("all k, kk (and() -> or())", 999), ("all k, l, m", 8), ("all k(", 5), ("all K", 4), ("all k1", 5),
            ("all abcdefghi", 12), ("all k (not", 7), ("all k ([i <= j] -> ", 13), ("all k ([i <= k+", 14), ("all k ([k+1", 9), ("all k ([k < i", 11),
            ("all k ([k == i] -> or()", 23), ("all k ([k <= l", 13), ("all k, l ([k <= l] -> [", 22), ("all k (x", 7), ("all k (and() -> all", 17),
            ("all k (and() -> a[k+1", 19), ("all k (and() -> a[k]+0", 21), ("all k (and() -> k", 16), ("all k (and() -> a[l", 18), ("all k (and() ->or", 15),
            ("all k (and()", 12), ("all k (all", 8), ("all k (and(x", 11), ("all k (and() -> not([", 20), ("all x (", 5), ("all n", 5), ("all n (", 5),
            ("all k ([3 <= 4", 13), ("all k ([x", 8), ("all k ([a", 8), ("all k ([", 8), ("not(all k (and() -> and()))x", 27), ("all k (or([k <= k]x", 18),
        ]:
            if at == 999:
                self.assertEqual(read_claim(FRAME, text), ("all", ("k", "kk"), ("and", ()), ("or", ())))
            else:
                self.at(text, at)

    def test_own_names_that_cannot_be_gone_on_with(self):
        taken = [f"abcdefg{letter}" for letter in LETTERS]
        frame = Frame(tuple(zip(taken[:12], taken[12:24])), tuple(taken[24:]), ())
        self.at("all abcdefga", 11, frame)
        self.assertEqual(read_claim(frame, "all abcdefg (and() -> and())")[1], ("abcdefg",))
        self.at("all abcdefg, abcdefg", 19, frame)
        more = Frame(tuple(zip(taken[:12], taken[12:24])), (*taken[24:], "abcdefg"), ())
        self.at("all abcdefg", 10, more)
        self.at("all abcdef", 10, more)
        self.at("all abcdefz", 11, more)

    def test_names_that_begin_with_one_another(self):
        frame = Frame((("ab", "n"), ("abc", "nn")), ("i", "ii", "iii"), ("abcd", "a"))
        for text, at in [("a < ab", 6), ("ab < 3", 2), ("abc < 3", 3), ("abcd < 3 ", 8), ("abcde", 4), ("[ii < iiii", 9), ("[nn < nnn", 8), ("ab[i", 4)]:
            self.at(text, at, frame)
        self.assertEqual(read_claim(frame, "ab[ii+1] < abc[nn]+2"), ("val", "<", ("ab", "ii", 1, 0), ("abc", "nn", 0, 2)))

    def test_words_that_are_names(self):
        for text, at in [("and", 3), ("and ", 4), ("and(", 4), ("and x", 4), ("not < 3", 3), ("all k", 5), ("all <", 4), ("all[", 4), ("or", 2), ("or(", 3),
                         ("or[", 3), ("or < ", 2), ("and+", 4), ("and[", 3)]:
            self.at(text, at, WORDS)
        both = Frame((("nota", "n"),), (), ("all", "not"))
        for text, at in [("all", 3), ("all ", 4), ("all k", 5), ("all <", 5), ("all =", 5), ("all +", 4), ("all  ", 4), ("not", 3), ("not(", 4), ("not(not", 7),
                         ("not [", 4), ("nota", 4), ("nota(", 4)]:
            self.at(text, at, both)

    def test_rows(self):
        for text, at in [
            (" ", 0), ("i", 1), ("i =", 3), ("i= 3", 1), ("i = ", 4), ("i = x", 4), ("i = 3;", 6), ("i = 3; ", 7), ("i = 3;j", 6), ("i = 3 ", 5),
            ("n = 3", 0), ("x = i", 4), ("x = a", 5), ("a = 3", 1), ("a[x", 2), ("a[i] < 3", 5), ("a[i]+1 = 3", 4), ("a[i]= 3", 4), ("k = 3", 0),
            ("if", 2), ("if ", 3), ("if [i < j]", 10), ("if [i < j] {", 12), ("if [i < j] {}", 12), ("if [i < j] { }", 14), ("if [i < j] { };", 14),
            ("if [i < j] {  }", 13), ("if [i < j] { } else", 19), ("if [i < j] { } else {", 21), ("if [i < j] { } else { }x", 23), ("if = 3", 3),
            ("if [i < j] { i = 3", 18), ("if [i < j] { i = 3; }", 20), ("if [i < j] { i = 3}", 18), ("if x < 3 { i = 3 } else { j = 3 } ", 33),
            ("while x < 3 { i = 3 } else", 21), ("while all k", 7), ("while not(all", 11), ("while x < 3{", 11), ("while  x", 6), ("else", 0), ("{ }", 0),
            ("while x < 3 { while x < 3 { i = 3 }", 35), ("i = 3; }", 7), ("while x", 7), ("whil", 4), ("iff", 2), ("i = 3; while", 12), ("a[i] = ", 7),
        ]:
            self.rows_at(text, at)
        refusal(ParseError, read_rows, EMPTY, "i = 3")
        self.assertEqual(read_rows(EMPTY, "while and() { }").rows, (("while", ("and", ()), ()),))

    def test_rows_with_words_as_names(self):
        frame = Frame((("while", "else"),), ("if",), ("i",))
        for text, at in [("if", 2), ("if ", 3), ("if =", 4), ("if = ", 5), ("if =3", 4), ("if [", 4), ("if x", 3), ("while", 5), ("while ", 6), ("while[", 6),
                         ("while =", 6), ("else", 0), ("i", 1), ("i = ", 4), ("if i", 4), ("if i =", 6), ("if  ", 3), ("if+", 2)]:
            self.rows_at(text, at, frame)

    def test_sixty_and_sixty_one_digits(self):
        digits = "123456" * 10
        self.assertEqual(read_claim(FRAME, f"x < {digits}")[3], ("", int(digits)))
        self.assertEqual(read_claim(FRAME, f"x-{digits} < -{digits}"), ("val", "<", ("x", -int(digits)), ("", -int(digits))))
        self.at(f"x < {digits}7", 64)
        self.at(f"x < -{digits}7", 65)
        self.at(f"x+{digits}7 < 3", 62)
        self.at(f"[i < n-{digits}0]", 67)
        self.at(f"a[{digits}0] < 3", 62)
        self.rows_at(f"i = {digits}1", 64)
        self.at("x < " + "9" * 11000, 64)

    def test_random(self):
        renamings = [{}] + [dict(zip("abnmijx", words.split())) for words in (
            "all or if else not while and", "not while all else and if or", "if and nn n aa a not",
            "a ab abc abcd if ifs all", "w wh whil ol l o al")]
        wrong = 0
        for seed in range(2500):
            maker, outlines = random.Random(seed), Outlines(seed)
            names = renamings[seed % len(renamings)]
            frame = PAIR.renamed(names)
            is_rows = seed % 8 > 3
            if is_rows:
                text = write_rows(Program(PAIR, outlines.rows(1)).renamed(names))
            else:
                text = write_claim(frame, renamed_claim(PAIR, outlines.claim(2), names))
            text = changed(maker, text)
            start, call = (ROWS, read_rows) if is_rows else (CLAIM, read_claim)
            wanted = Grammar(frame).wrong_at(start, text)
            if is_rows and text == "":
                wanted = None
            with self.subTest(seed, text=text):
                try:
                    call(frame, text)
                    self.assertIsNone(wanted)
                except ParseError as error:
                    wrong += 1
                    self.assertEqual(error.at, wanted)
                except (InvalidClaim, InvalidProgram):
                    self.assertIsNone(wanted)
        self.assertGreater(wrong, 1000)

    def test_every_beginning_of_a_text(self):
        for text, call in ((write_claim(FRAME, UP), read_claim), (write_claim(FRAME, ("not", UPTO)), read_claim),
                           (write_rows(insertion().program), read_rows), (write_rows(greatest().program), read_rows)):
            for end in range(len(text)):
                try:
                    call(FRAME, text[:end])
                except ParseError as error:
                    self.assertEqual(error.at, end)


class Deep(unittest.TestCase):
    def test_depth_plays_no_part_for_texts(self):
        for depth in (1, 12):
            claim = depth_by_nots(depth)
            self.assertEqual(read_claim(FRAME, write_claim(FRAME, claim)), claim)
        self.assertEqual(read_claim(FRAME, write_claim(FRAME, depth_by_ands(12))), depth_by_ands(12))
        for depth in (12, 500, 2900):
            text = "not(" * depth + "x < 3" + ")" * depth
            refusal(InvalidClaim, read_claim, FRAME, text)
            self.assertEqual(refusal(ParseError, read_claim, FRAME, text[:-1]).at, len(text) - 1)
            self.assertEqual(refusal(ParseError, read_claim, FRAME, text + ")").at, len(text))
            self.assertEqual(refusal(ParseError, read_claim, FRAME, "and(" * depth + "x").at, 4 * depth + 1)

    def test_rows_that_are_too_many_or_too_deep(self):
        refusal(InvalidProgram, read_rows, FRAME, "; ".join(["i = 0"] * 25))
        self.assertEqual(len(read_rows(FRAME, "; ".join(["i = 0"] * 24))), 24)
        refusal(InvalidProgram, read_rows, FRAME, "; ".join(["while and() { }"] * 5))
        self.assertEqual(len(read_rows(FRAME, "; ".join(["while and() { }"] * 4))), 4)
        for depth in (5, 400):
            text = "if or() { } else { " * depth + "i = 0" + " }" * depth
            refusal(InvalidProgram, read_rows, FRAME, text)
            self.assertEqual(refusal(ParseError, read_rows, FRAME, text[:-1]).at, len(text) - 1)
        deep = "not(" * 10 + "x < 3" + ")" * 10
        self.assertEqual(len(read_rows(FRAME, f"while {deep} {{ }}")), 1)
        refusal(InvalidProgram, read_rows, FRAME, f"while not({deep}) {{ }}")
        self.assertEqual(refusal(ParseError, read_rows, FRAME, f"while not({deep}) {{").at, len(deep) + 13)

    def test_long_texts(self):
        parts = ", ".join(["x < 3"] * 1700)
        self.assertEqual(len(read_claim(FRAME, f"and({parts})")[1]), 1700)
        self.assertEqual(refusal(ParseError, read_claim, FRAME, "a" * 12000).at, 1)


if __name__ == "__main__":
    unittest.main()
