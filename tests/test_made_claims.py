import unittest

from cellsenough.base.frames import Frame
from cellsenough.errors import InvalidClaim, InvalidFrame, InvalidOperation, InvalidTerm, UnknownName
from cellsenough.logic.claims import all_between, in_order, inside_claim, is_claim, renamed_claim
from samples import ATOM, BODY, FRAME, GUARD, LONG, TOO_LONG, UPTO, WIDE, not_names, refusal

I, K, L, X = ("i", 0), ("k", 0), ("l", 0), ("x", 0)
LOW, HIGH = ("", 0), ("n", -1)
CELL = ("a", "k", 0, 0)
NO_POSITION_TERMS = [("k", 0), X, ("a", "i", 0, 0), ["i", 0], ("i", True), ("i", TOO_LONG), ("i",)]


class Inside(unittest.TestCase):
    def test_inside_claim(self):
        self.assertEqual(inside_claim(WIDE, "b", ("i", 2)),
                         ("and", (("pos", "<=", ("", 0), ("i", 2)), ("pos", "<", ("i", 2), ("m", 0)))))
        self.assertEqual(inside_claim(WIDE, "c", ("", LONG)),
                         ("and", (("pos", "<=", ("", 0), ("", LONG)), ("pos", "<", ("", LONG), ("n", 0)))))

    def test_errors_in_order(self):
        for value in not_names():
            with self.subTest(repr(value)[:40]):
                if value is not FRAME:
                    refusal(InvalidFrame, inside_claim, value, None, None)
                    refusal(InvalidFrame, in_order, value, None, None, None)
                self.assertEqual(refusal(UnknownName, inside_claim, FRAME, value, None).wanted, value)
                self.assertEqual(refusal(UnknownName, in_order, FRAME, value, None, None).wanted, value)
                refusal(InvalidTerm, inside_claim, FRAME, "a", value)
                refusal(InvalidTerm, in_order, FRAME, "a", value, HIGH)
                refusal(InvalidTerm, in_order, FRAME, "a", LOW, value)
        for name in ("n", "i", "x", "q"):
            self.assertEqual(refusal(UnknownName, inside_claim, FRAME, name, I).wanted, name)
            self.assertEqual(refusal(UnknownName, in_order, FRAME, name, LOW, HIGH).wanted, name)
        for term in NO_POSITION_TERMS:
            refusal(InvalidTerm, inside_claim, FRAME, "a", term)
            refusal(InvalidTerm, in_order, FRAME, "a", term, HIGH)
            refusal(InvalidTerm, in_order, FRAME, "a", LOW, term)


class Between(unittest.TestCase):
    def test_all_between(self):
        for op in ("<=", "<", "=="):
            self.assertEqual(all_between(FRAME, ("i", 2), HIGH, op, CELL, ("x", 3)), (
                "all", ("k",), ("and", (("pos", "<=", ("i", 2), K), ("pos", "<=", K, HIGH))), ("val", op, CELL, ("x", 3))))
        self.assertEqual(all_between(FRAME, LOW, HIGH, "==", ("x", 0), ("a", "i", 3, 1))[3],
                         ("val", "==", ("x", 0), ("a", "i", 3, 1)))

    def test_own_name_is_the_first_fresh_one(self):
        frame = Frame((("a", "k"),), ("kk",), ("kkkk",))
        claim = all_between(frame, LOW, ("k", 0), "<", ("a", "kkk", 0, 0), ("a", "kk", 5, 0))
        self.assertEqual(claim, ("all", ("kkk",), ("and", (("pos", "<=", LOW, ("kkk", 0)),
                                                           ("pos", "<=", ("kkk", 0), ("k", 0)))),
                                 ("val", "<", ("a", "kkk", 0, 0), ("a", "kk", 5, 0))))
        self.assertIs(is_claim(frame, claim), True)
        refusal(InvalidTerm, all_between, frame, LOW, LOW, "<", ("a", "kkkkk", 0, 0), LOW)
        refusal(InvalidTerm, all_between, frame, LOW, LOW, "<", ("a", "kkk", 1, 0), LOW)
        full = Frame((), ("k", "kk", "kkk", "kkkk", "kkkkk", "kkkkkk"), ("kkkkkkk",))
        self.assertEqual(all_between(full, LOW, LOW, "<", LOW, LOW)[1], ("kkkkkkkk",))

    def test_errors_in_order(self):
        for value in not_names():
            with self.subTest(repr(value)[:40]):
                if value is not FRAME:
                    refusal(InvalidFrame, all_between, value, None, None, None, None, None)
                refusal(InvalidTerm, all_between, FRAME, value, HIGH, "<", CELL, X)
                refusal(InvalidTerm, all_between, FRAME, value, None, None, None, None)
                refusal(InvalidTerm, all_between, FRAME, LOW, value, None, None, None)
                refusal(InvalidOperation, all_between, FRAME, LOW, HIGH, value, CELL, X)
                refusal(InvalidOperation, all_between, FRAME, LOW, HIGH, value, None, None)
                refusal(InvalidTerm, all_between, FRAME, LOW, HIGH, "<", value, X)
                refusal(InvalidTerm, all_between, FRAME, LOW, HIGH, "<", CELL, value)
        for op in (">", ">=", "!=", "=", "<  ", "all"):
            refusal(InvalidOperation, all_between, FRAME, LOW, HIGH, op, CELL, X)
        for term in NO_POSITION_TERMS:
            refusal(InvalidTerm, all_between, FRAME, term, HIGH, None, CELL, X)
            refusal(InvalidTerm, all_between, FRAME, LOW, term, None, CELL, X)
        for term in (I, ("a", "k", 1, 0), ("a", "k", -1, 0), ("a", "l", 0, 0), ("k", 0), ("b", "k", 0, 0), ["x", 0],
                     ("a", "k", 0, True), ("a", "k", False, 0), ("a", "k", 0, TOO_LONG)):
            refusal(InvalidTerm, all_between, FRAME, LOW, HIGH, "<", term, X)
            refusal(InvalidTerm, all_between, FRAME, LOW, HIGH, "<", CELL, term)


class InOrder(unittest.TestCase):
    def order(self, frame, one, other):
        claim = in_order(frame, "a", ("", 1), ("", 4))
        self.assertEqual(claim, ("all", (one, other), ("and", (
            ("pos", "<=", ("", 1), (one, 0)), ("pos", "<=", (one, 0), (other, 0)), ("pos", "<=", (other, 0), ("", 4)))),
            ("val", "<=", ("a", one, 0, 0), ("a", other, 0, 0))))
        self.assertIs(is_claim(frame, claim), True)

    def test_own_names_are_the_first_fresh_ones(self):
        self.order(Frame((("a", "n"),), (), ()), "j", "k")
        self.order(FRAME, "k", "jj")
        self.order(Frame((("a", "k"),), (), ()), "j", "jj")
        self.order(Frame((("a", "n"),), ("j", "k"), ()), "jj", "kk")
        self.order(Frame((("a", "n"),), ("jj", "k"), ("kk",)), "j", "jjj")
        self.order(Frame((("a", "j"),), ("k", "jj", "kk", "jjj", "kkk", "jjjj"), ()), "kkkk", "jjjjj")


class Renamed(unittest.TestCase):
    def test_names_everywhere(self):
        claim = ("not", ("and", (ATOM, ("val", "<", ("a", "n", 2, 3), X), UPTO)))
        names = {"a": "b", "n": "m", "i": "j", "j": "i", "x": "a"}
        self.assertEqual(renamed_claim(FRAME, claim, names), ("not", ("and", (
            ("pos", "<=", ("j", 0), ("i", 1)), ("val", "<", ("b", "m", 2, 3), ("a", 0)),
            ("all", ("k",), ("and", (("pos", "<=", ("", 0), K), ("pos", "<=", K, ("j", 0)))),
             ("val", "<=", ("b", "k", 0, 0), ("a", 0)))))))
        self.assertEqual(renamed_claim(FRAME, UPTO, {}), UPTO)
        self.assertEqual(renamed_claim(FRAME, ("or", ()), names), ("or", ()))
        self.assertEqual(list(names), ["a", "n", "i", "j", "x"])

    def test_own_names_that_are_not_fresh(self):
        self.assertEqual(renamed_claim(FRAME, UPTO, {"i": "k"}), (
            "all", ("kk",), ("and", (("pos", "<=", ("", 0), ("kk", 0)), ("pos", "<=", ("kk", 0), ("k", 0)))),
            ("val", "<=", ("a", "kk", 0, 0), X)))
        self.assertEqual(renamed_claim(FRAME, UPTO, {"x": "k", "i": "kk"})[1], ("kkk",))

    def test_an_old_name_that_gets_free(self):
        frame = Frame((("a", "n"),), ("k", "i"), ("x",))
        claim = ("all", ("q",), ("and", (("pos", "<=", K, ("q", 0)), ("pos", "<=", ("q", 0), I))),
                 ("val", "<", ("a", "q", 0, 0), ("a", "k", 0, 0)))
        self.assertEqual(renamed_claim(frame, claim, {"i": "q", "k": "z"}), (
            "all", ("k",), ("and", (("pos", "<=", ("z", 0), K), ("pos", "<=", K, ("q", 0)))),
            ("val", "<", ("a", "k", 0, 0), ("a", "z", 0, 0))))

    def test_two_own_names(self):
        guard = ("and", (("pos", "<=", ("p", 0), ("q", 0)), ("pos", "==", ("q", 0), I)))
        claim = ("all", ("p", "q"), guard, ("val", "<", ("a", "p", 0, 0), ("a", "q", 0, 1)))

        def own(names, own_names=("p", "q")):
            swap = {"p": own_names[0], "q": own_names[1]}
            made = ("all", own_names, ("and", (("pos", "<=", (swap["p"], 0), (swap["q"], 0)),
                                               ("pos", "==", (swap["q"], 0), I))),
                    ("val", "<", ("a", swap["p"], 0, 0), ("a", swap["q"], 0, 1)))
            result = renamed_claim(FRAME, made, names)
            one, other = result[1]
            self.assertEqual(result[2][1][0], ("pos", "<=", (one, 0), (other, 0)))
            self.assertEqual(result[3], ("val", "<", (names.get("a", "a"), one, 0, 0), (names.get("a", "a"), other, 0, 1)))
            return result[1]

        self.assertEqual(renamed_claim(FRAME, claim, {"j": "m"}), claim)
        self.assertEqual(own({"j": "p"}), ("k", "q"))
        self.assertEqual(own({"j": "q"}), ("p", "k"))
        self.assertEqual(own({"j": "p", "x": "q"}), ("k", "kk"))
        self.assertEqual(own({"j": "p", "x": "q", "a": "k"}), ("kk", "kkk"))
        # The new name is not the other own name of this all.
        self.assertEqual(own({"j": "p"}, ("p", "k")), ("kk", "k"))
        self.assertEqual(own({"j": "p"}, ("k", "p")), ("k", "kk"))
        self.assertEqual(own({"j": "k"}, ("k", "kk")), ("kkk", "kk"))
        self.assertEqual(own({"j": "kk"}, ("k", "kk")), ("k", "kkk"))

    def test_each_all_by_itself(self):
        one = ("all", ("p",), ("and", ()), ("val", "<", ("a", "p", 0, 0), X))
        claim = ("or", (one, ("not", ("all", ("k",), ("and", ()), ("val", "<", ("a", "k", 0, 0), X)))))
        self.assertEqual(renamed_claim(FRAME, claim, {"j": "p"}), ("or", (
            ("all", ("k",), ("and", ()), ("val", "<", ("a", "k", 0, 0), X)),
            ("not", ("all", ("k",), ("and", ()), ("val", "<", ("a", "k", 0, 0), X))))))

    def test_errors_in_order(self):
        for value in not_names():
            with self.subTest(repr(value)[:40]):
                if value is not FRAME:
                    refusal(InvalidFrame, renamed_claim, value, None, None)
                if value != ("and", ()):
                    refusal(InvalidClaim, renamed_claim, FRAME, value, None)
                if value != {}:
                    refusal(InvalidOperation, renamed_claim, FRAME, UPTO, value)
                refusal(InvalidOperation, renamed_claim, FRAME, UPTO, {"i": value})
        for names in ({"i": "j"}, {"k": "l"}, {"i": "p", "j": "p"}, {True: "p"}, [("i", "p")]):
            refusal(InvalidOperation, renamed_claim, FRAME, UPTO, names)
        refusal(InvalidOperation, renamed_claim, WIDE, ATOM, {"n": "m"})

    def test_result_is_a_claim_there(self):
        claim = ("all", ("k", "l"), ("and", (GUARD, ("pos", "<=", L, HIGH))), ("and", (BODY, ("val", "<", CELL, X))))
        for names in ({"i": "k"}, {"i": "l", "a": "k"}, {"n": "k", "x": "kk", "j": "l"}, {"i": "z"}):
            with self.subTest(names):
                self.assertIs(is_claim(FRAME.renamed(names), renamed_claim(FRAME, claim, names)), True)


if __name__ == "__main__":
    unittest.main()
