import unittest

from cellsenough.base.frames import Frame
from cellsenough.errors import InvalidFrame, InvalidTerm
from cellsenough.logic.claims import claim_depth, is_body, is_claim, is_guard, names_of
from samples import ATOM, BODY, FRAME, GUARD, LONG, TOO_LONG, UPTO, WIDE
from samples import depth_by_ands, depth_by_nots, not_integers, not_names, refusal
from test_terms import WRONG_OWN

K, I = ("k", 0), ("i", 0)
CELL = ("a", "k", 0, 0)


class Claims(unittest.TestCase):
    def right(self, *claims):
        for claim in claims:
            with self.subTest(repr(claim)[:80]):
                self.assertIs(is_claim(FRAME, claim), True)

    def wrong(self, *values):
        for value in values:
            with self.subTest(repr(value)[:80]):
                self.assertIs(is_claim(FRAME, value), False)

    def test_atoms(self):
        for op in ("<=", "<", "=="):
            self.right(("pos", op, ("i", 0), ("n", -1)), ("pos", op, ("", 0), ("", LONG)))
            self.right(("val", op, ("x", 0), ("", 1)), ("val", op, ("a", "n", -1, 0), ("a", "", 0, 3)))
        for op in (">=", ">", "!=", "=", "", "< ", None, True, ["<"], ("<",), 0, FRAME):
            self.wrong(("pos", op, I, I), ("val", op, ("x", 0), ("x", 0)))
        self.wrong(("pos", "<", ("x", 0), I), ("pos", "<", I, ("x", 0)), ("val", "<", I, ("x", 0)),
                   ("val", "<", ("x", 0), I), ("pos", "<", ("a", "i", 0, 0), I), ("pos", "<", I, CELL))
        self.wrong(("pos", "<", I), ("pos", "<", I, I, I), ("pos", I, "<", I), ["pos", "<", I, I], ("cell", "<", I, I),
                   ("pos", "<", ["i", 0], I), ("pos", "<", I, K), ("val", "<", CELL, ("x", 0)), (True, "<", I, I),
                   ("val", "<", ("x", 0), ("y", 0)), ("POS", "<", I, I), ("", "<", I, I), (("pos",), "<", I, I))

    def test_true_and_false_are_no_integers(self):
        for value in not_integers():
            self.wrong(("pos", "<", ("i", value), I), ("pos", "<", I, ("", value)), ("val", "<", ("x", value), ("x", 0)))
            self.wrong(("val", "<", ("x", 0), ("a", "i", value, 0)), ("val", "<", ("x", 0), ("a", "i", 0, value)))
            self.wrong(("not", ("and", (ATOM, ("or", (("pos", "<", I, ("j", value)),))))))
            self.wrong(("all", ("k",), ("pos", "<=", ("k", value), I), BODY))
            self.wrong(("all", ("k",), GUARD, ("val", "<", ("a", "k", value, 0), ("x", 0))))
            self.wrong(("all", ("k",), GUARD, ("val", "<", ("a", "k", 0, value), ("x", 0))))

    def test_sixty_and_sixty_one_digits(self):
        for number, is_right in ((LONG, True), (-LONG, True), (TOO_LONG, False), (-TOO_LONG, False)):
            for claim in (("pos", "<", ("i", number), I), ("val", "<", ("x", 0), ("a", "i", number, 0)),
                          ("val", "<", ("x", 0), ("a", "i", 0, number)),
                          ("all", ("k",), ("pos", "<=", ("", number), K), BODY),
                          ("all", ("k",), GUARD, ("val", "<", ("a", "k", 0, number), ("x", number)))):
                self.assertIs(is_claim(FRAME, claim), is_right)

    def test_nots_ands_ors(self):
        self.right(("not", ATOM), ("not", ("not", UPTO)), ("and", ()), ("or", ()), ("and", (ATOM,)),
                   ("or", (ATOM, ("and", ()), UPTO, ("not", UPTO))), ("and", (ATOM,) * 500))
        self.wrong(("not",), ("not", ()), ("not", ATOM, ATOM), ("not", (ATOM,)), ("not", "and"), ("and",), ("and", ATOM),
                   ("and", [ATOM]), ("or", {}), ("and", "and"), ("and", None), ("or", (ATOM, None)), ("and", (ATOM, ())),
                   ("and", (), ()), ["and", ()], ["not", ATOM], ("xor", ()), ("AND", ()), (True, ()), (["and"], ()))

    def test_alls(self):
        self.right(UPTO, ("all", ("q",), ("and", ()), ("or", ())), ("all", ("k", "l"), ("or", ()), ("and", ())),
                   ("all", ("k",), ("pos", "==", K, ("n", 2)), ("not", BODY)),
                   ("all", ("abcdefgh", "k"), GUARD, BODY),
                   ("all", ("k",), ("pos", "<=", K, K), ("val", "<", ("x", 0), ("a", "i", 7, 0))))
        self.wrong(("all", (), ("and", ()), ("and", ())), ("all", ("k", "k"), GUARD, BODY),
                   ("all", ("k", "l", "m"), GUARD, BODY), ("all", ("i",), ("and", ()), ("and", ())),
                   ("all", ["k"], GUARD, BODY), ("all", "k", GUARD, BODY), ("all", ("k",), GUARD),
                   ("all", ("k",), GUARD, BODY, BODY), ("all", ("k",), BODY, GUARD), ("all", ("l",), GUARD, BODY),
                   ("all", ("A",), ("and", ()), ("and", ())), ("all", (True,), ("and", ()), ("and", ())),
                   ["all", ("k",), GUARD, BODY], ("all", ("k",), ("and", ()), UPTO), ("all", ("k",), UPTO, BODY),
                   ("all", ("k",), ("not", GUARD), BODY), ("all", ("k",), GUARD, ("and", (UPTO,))))

    def test_own_names_again_in_another_all(self):
        self.right(("and", (UPTO, UPTO, ("not", UPTO), ("all", ("j" * 2, "k"), GUARD, BODY))))
        self.wrong(("and", (UPTO, BODY)), ("and", (UPTO, ("pos", "<=", K, I))))

    def test_depth(self):
        for made in (depth_by_nots, depth_by_ands):
            for depth in (1, 2, 11, 12):
                self.right(made(depth))
            for depth in (13, 14, 20, 40):
                self.wrong(made(depth))
        deep = ("all", ("k",), depth_by_ands(11, ("pos", "<=", K, I)), depth_by_ands(11, BODY))
        self.right(deep, depth_by_ands(12, ("and", ())))
        self.wrong(("not", deep), ("all", ("k",), depth_by_ands(12, ("pos", "<=", K, I)), BODY),
                   ("all", ("k",), GUARD, depth_by_ands(12, BODY)), ("and", (ATOM, deep)),
                   depth_by_ands(13, ("and", ())))
        self.assertIs(is_claim(FRAME, depth_by_nots(5000)), False)

    def test_guards_and_bodies_alone_have_any_depth(self):
        for depth in (12, 13, 400):
            self.assertIs(is_guard(FRAME, ("k",), depth_by_ands(depth, ("pos", "<=", K, I))), True)
            self.assertIs(is_body(FRAME, ("k",), depth_by_ands(depth, BODY)), True)

    def test_values_of_every_kind(self):
        self.wrong(*[value for value in not_names() if value != ("and", ())], "a", "and", "not", "all", "pos")
        for value in not_names():
            if value != ("and", ()):
                self.wrong(("not", value), ("and", (ATOM, value)), ("all", ("k",), value, BODY))
                self.wrong(("all", ("k",), GUARD, value), ("pos", "<", value, I), ("val", "<", ("x", 0), value))
            self.wrong((value, "<", I, I), (value, ATOM), (value, ("k",), GUARD, BODY), ("all", (value,), GUARD, BODY))
            self.wrong(("all", ("k", value), GUARD, BODY), ("all", value, GUARD, BODY))
            if value != ():
                self.wrong(("and", value))

    def test_wrong_frame(self):
        for frame in not_names():
            if frame is not FRAME:
                refusal(InvalidFrame, is_claim, frame, ATOM)
                refusal(InvalidFrame, is_claim, frame, None)

    def test_names_like_the_words_of_claims(self):
        frame = Frame((("all", "and"),), ("or", "not"), ("val",))
        body = ("val", "<", ("all", "pos", 0, 0), ("val", 0))
        claim = ("not", ("all", ("pos",), ("and", (("pos", "<=", ("or", 0), ("pos", 0)),)), ("not", body)))
        self.assertIs(is_claim(frame, claim), True)
        self.assertEqual([names_of(frame, claim), claim_depth(frame, claim)], [("all", "or", "val"), 4])
        self.assertIs(is_guard(frame, ("pos",), ("pos", "<=", ("pos", 0), ("and", 0))), True)
        self.assertIs(is_body(frame, ("pos",), body), True)

    def test_another_frame(self):
        self.assertIs(is_claim(Frame((), (), ()), ATOM), False)
        self.assertIs(is_claim(Frame((), (), ()), ("and", ())), True)
        self.assertIs(is_claim(WIDE, UPTO), True)
        self.assertIs(is_claim(WIDE.renamed({"j": "k"}), UPTO), False)


class Guards(unittest.TestCase):
    def judged(self, answer, own, *values):
        for value in values:
            with self.subTest(repr(value)[:80], own=own):
                self.assertIs(is_guard(FRAME, own, value), answer)

    def test_guards(self):
        self.judged(True, ("k",), GUARD, ("and", ()), ("or", ()), ("pos", "<=", K, I), ("pos", "<=", ("n", -3), K),
                    ("pos", "==", K, ("", LONG)), ("pos", "==", ("i", 2), K), ("pos", "<=", K, K),
                    ("or", (GUARD, ("and", (("or", ()), ("pos", "==", K, I))))))
        self.judged(True, ("k", "l"), ("pos", "<=", K, ("l", 0)), ("pos", "==", ("l", 0), K), ("pos", "<=", ("l", 0), I),
                    GUARD)

    def test_no_guards(self):
        self.judged(False, ("k",), ("pos", "<", K, I), ("pos", "<", I, K), ("not", ("pos", "<=", K, I)), ATOM,
                    ("pos", "<=", ("k", 1), I), ("pos", "<=", I, ("k", -1)), ("pos", "==", K, ("k", 1)),
                    ("pos", "<=", ("", 0), ("", 0)), BODY, UPTO, ("and", (GUARD, ("not", GUARD))),
                    ("and", [GUARD]), ("or", (ATOM,)), ("pos", "<=", ("l", 0), I), ("pos", "<=", K, ("l", 0)),
                    ("pos", "<=", K, ("x", 0)), ("pos", "<=", K, CELL), ["pos", "<=", K, I], ("pos", "<=", K),
                    ("pos", "<=", K, ("i", True)), ("pos", "<=", ("k", False), I), ("pos", "<=", K, ("i", TOO_LONG)),
                    ("val", "<=", ("x", 0), ("x", 0)), ("and",), ("not", ("and", ())), ("val", "<=", K, I),
                    ("and", "<=", K, I), ("", "==", K, I), (None, "<=", K, I), ("all", "<=", K, I))
        self.judged(False, ("k", "l"), ("pos", "<=", K, ("l", -1)), ("pos", "<=", ("k", 1), ("l", 0)),
                    ("pos", "<", K, ("l", 0)))
        self.judged(False, ("k",), *[value for value in not_names() if value != ("and", ())])

    def test_wrong_own_names_and_frames(self):
        for judge in (is_guard, is_body):
            for own in [*WRONG_OWN, ()]:
                with self.subTest(repr(own)):
                    refusal(InvalidTerm, judge, FRAME, own, ("and", ()))
                    refusal(InvalidTerm, judge, FRAME, own, None)
            for value in not_names():
                with self.subTest(repr(value)[:40]):
                    refusal(InvalidTerm, judge, FRAME, value, ("and", ()))
                    refusal(InvalidTerm, judge, FRAME, (value,), ("and", ()))
                    refusal(InvalidTerm, judge, FRAME, ("k", value), ("and", ()))
                    if value is not FRAME:
                        refusal(InvalidFrame, judge, value, ("k",), ("and", ()))
                        refusal(InvalidFrame, judge, value, ["k"], None)


class Bodies(unittest.TestCase):
    def judged(self, answer, own, *values):
        for value in values:
            with self.subTest(repr(value)[:80], own=own):
                self.assertIs(is_body(FRAME, own, value), answer)

    def test_bodies(self):
        for op in ("<=", "<", "=="):
            self.judged(True, ("k",), ("val", op, CELL, ("x", 0)), ("val", op, ("a", "i", 5, -1), ("a", "k", 0, 9)))
        self.judged(True, ("k",), BODY, ("not", BODY), ("and", ()), ("or", (BODY, ("not", ("and", (BODY,))))),
                    ("val", "<", ("x", 0), ("", 3)), ("val", "<", ("a", "n", -1, 0), ("a", "", LONG, 0)))
        self.judged(True, ("k", "l"), ("val", "<=", CELL, ("a", "l", 0, 0)), BODY)

    def test_no_bodies(self):
        self.judged(False, ("k",), ("val", "<=", ("a", "k", 1, 0), ("x", 0)), ("val", "<=", ("x", 0), ("a", "k", -1, 0)),
                    ("val", "<=", ("a", "l", 0, 0), ("x", 0)), ("val", "<=", ("k", 0), ("x", 0)), GUARD, ATOM, UPTO,
                    ("not", UPTO), ("and", (BODY, GUARD)), ("pos", "<=", K, I), ("val", "<>", CELL, CELL),
                    ("val", "<=", ("a", "k", False, 0), ("x", 0)), ("val", "<=", ("a", "k", 0, True), ("x", 0)),
                    ["not", BODY], ("not",), ("not", BODY, BODY), ("and", [BODY]), ("val", "<=", CELL),
                    ("val", "<=", ("b", "k", 0, 0), ("x", 0)), ("val", "<=", CELL, ("i", 0)))
        self.judged(False, ("k", "l"), ("val", "<=", CELL, ("a", "l", 1, 0)))
        self.judged(False, ("k",), *[value for value in not_names() if value != ("and", ())])


if __name__ == "__main__":
    unittest.main()
