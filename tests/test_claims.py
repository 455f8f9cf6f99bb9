import unittest

from cellsenough.base.frames import Frame
from cellsenough.errors import InvalidClaim, InvalidFrame, InvalidOperation
from cellsenough.logic.claims import claim_depth, has_all, is_claim, names_of, plain_claim, replaced, used_at
from samples import ATOM, BODY, FRAME, GUARD, LONG, TOO_LONG, UPTO, WIDE
from samples import depth_by_ands, depth_by_nots, not_integers, not_names, refusal

I, J, K, X = ("i", 0), ("j", 0), ("k", 0), ("x", 0)
TWO = ("all", ("k", "l"), ("and", (("pos", "<=", K, ("l", 0)), ("pos", "==", ("l", 0), ("i", 4)))),
       ("val", "<", ("a", "k", 0, 1), ("a", "l", 0, 2)))


class Wrong(unittest.TestCase):
    """The first two arguments of all functions that take a frame and a claim."""

    def test_wrong_frame_then_wrong_claim(self):
        for call in (names_of, claim_depth, has_all, plain_claim):
            for value in not_names():
                with self.subTest(call=call, value=repr(value)[:40]):
                    if value is not FRAME:
                        refusal(InvalidFrame, call, value, ATOM)
                        refusal(InvalidFrame, call, value, None)
                    if value != ("and", ()):
                        refusal(InvalidClaim, call, FRAME, value)
            for claim in (depth_by_nots(13), depth_by_ands(13), ("pos", "<=", ("i", True), J), ("val", "<", I, J),
                          ("not", ("pos", "<", ("k", 0), I)), ["and", ()], GUARD, BODY):
                with self.subTest(call=call, claim=repr(claim)[:40]):
                    refusal(InvalidClaim, call, FRAME, claim)

    def test_with_a_third_argument(self):
        for call, last in ((replaced, {}), (used_at, (I,))):
            for value in not_names():
                with self.subTest(call=call, value=repr(value)[:40]):
                    if value is not FRAME:
                        refusal(InvalidFrame, call, value, UPTO, last)
                        refusal(InvalidFrame, call, value, None, None)
                    if value != ("and", ()):
                        refusal(InvalidClaim, call, FRAME, value, last)
                        refusal(InvalidClaim, call, FRAME, value, None)
            refusal(InvalidClaim, call, FRAME, depth_by_nots(13), last)


class Asked(unittest.TestCase):
    def test_names_of(self):
        cases = [
            (UPTO, ("a", "i", "x")), (ATOM, ("i", "j")), (("and", ()), ()), (("pos", "<", ("", 0), ("", 1)), ()),
            (("pos", "<", ("n", 0), J), ("j", "n")), (("val", "<", ("a", "", 0, 0), ("", 1)), ("a",)),
            (("val", "<", ("a", "n", 0, 0), X), ("a", "n", "x")), (TWO, ("a", "i")),
            (("not", ("or", (UPTO, ("and", (("pos", "==", J, ("n", 0)),))))), ("a", "i", "j", "n", "x")),
            (("all", ("k",), ("and", ()), ("or", ())), ()),
            (("all", ("k",), ("or", (("pos", "<=", J, K),)), ("not", ("val", "<", X, X))), ("j", "x")),
        ]
        for claim, names in cases:
            with self.subTest(claim):
                self.assertEqual(names_of(FRAME, claim), names)
        self.assertEqual(names_of(WIDE, ("val", "<", ("y", 0), ("c", "m", 0, 0))), ("c", "m", "y"))

    def test_claim_depth(self):
        cases = [(ATOM, 1), (("and", ()), 1), (("or", ()), 1), (("not", ATOM), 2), (("and", (("or", ()),)), 2),
                 (("not", ("and", ())), 2), (UPTO, 3), (("not", UPTO), 4), (("all", ("k",), ("and", ()), BODY), 2),
                 (("all", ("k",), ("and", ()), ("not", ("not", BODY))), 4),
                 (("all", ("k",), ("and", (GUARD,)), ("not", BODY)), 4),
                 (("or", (ATOM, ("not", ("not", ATOM)), ("not", ATOM))), 4)]
        for claim, depth in cases:
            with self.subTest(claim):
                self.assertEqual(claim_depth(FRAME, claim), depth)
        for depth in range(1, 13):
            self.assertEqual(claim_depth(FRAME, depth_by_nots(depth)), depth)
            self.assertEqual(claim_depth(FRAME, depth_by_ands(depth)), depth)

    def test_has_all(self):
        for claim in (UPTO, ("not", UPTO), ("and", (ATOM, ("or", (ATOM, ("not", UPTO))))), TWO, depth_by_ands(8, UPTO)):
            self.assertIs(has_all(FRAME, claim), True)
        for claim in (ATOM, ("and", ()), ("or", ()), ("not", ("or", (ATOM, ATOM))), depth_by_ands(12)):
            self.assertIs(has_all(FRAME, claim), False)


class Plain(unittest.TestCase):
    def plain(self, claim, wanted, opposite):
        with self.subTest(claim):
            self.assertEqual(plain_claim(FRAME, claim), wanted)
            self.assertEqual(plain_claim(FRAME, claim, is_true=True), wanted)
            self.assertEqual(plain_claim(FRAME, claim, is_true=False), opposite)
            if is_claim(FRAME, ("not", claim)):
                self.assertEqual(plain_claim(FRAME, ("not", claim)), opposite)
                self.assertEqual(plain_claim(FRAME, ("not", claim), is_true=False), wanted)

    def test_atoms(self):
        for word, one, other in (("pos", ("i", 3), ("n", -1)), ("val", ("a", "i", 1, 2), ("x", 5))):
            below, least, same = (word, "<", one, other), (word, "<=", one, other), (word, "==", one, other)
            self.plain(least, least, (word, "<", other, one))
            self.plain(below, below, (word, "<=", other, one))
            self.plain(same, same, ("or", (below, (word, "<", other, one))))

    def test_ands_and_ors(self):
        least, below = ("pos", "<=", I, J), ("pos", "<", J, I)
        cell, turned = ("val", "<", X, ("", 3)), ("val", "<=", ("", 3), X)
        self.plain(("and", (least, cell)), ("and", (least, cell)), ("or", (below, turned)))
        self.plain(("or", (cell, least)), ("or", (cell, least)), ("and", (turned, below)))
        self.plain(("and", ()), ("and", ()), ("or", ()))
        self.plain(("or", ()), ("or", ()), ("and", ()))
        self.plain(("and", (("not", least), ("or", (("not", ("not", cell)),)))), ("and", (below, ("or", (cell,)))),
                   ("or", (least, ("and", (turned,)))))

    def test_alls(self):
        self.plain(UPTO, UPTO, ("not", UPTO))
        whole = ("all", ("k",), GUARD, ("not", ("and", (BODY, ("not", BODY)))))
        plain = ("all", ("k",), GUARD, ("or", (("val", "<", X, ("a", "k", 0, 0)), BODY)))
        self.plain(whole, plain, ("not", plain))
        self.plain(("or", (whole, ("not", UPTO))), ("or", (plain, ("not", UPTO))), ("and", (("not", plain), UPTO)))

    def test_deepest(self):
        same = ("pos", "==", I, J)
        either = ("or", (("pos", "<", I, J), ("pos", "<", J, I)))
        deep = depth_by_ands(12, same)
        plain = plain_claim(FRAME, deep, is_true=False)
        self.assertEqual(plain[1][0], either)
        self.assertIs(is_claim(FRAME, plain), False)
        odd = ("not", ("not", ("not", ("not", ("not", ("not", ("not", ("not", ("not", ("not", ("not", same)))))))))))
        self.plain(odd, either, same)

    def test_wrong_is_true(self):
        for value in [0, 1, *[value for value in not_integers() if value is not True and value is not False]]:
            with self.subTest(repr(value)[:40]):
                refusal(InvalidOperation, plain_claim, FRAME, ATOM, is_true=value)
                refusal(InvalidClaim, plain_claim, FRAME, None, is_true=value)
                refusal(InvalidFrame, plain_claim, None, None, is_true=value)


class Replaced(unittest.TestCase):
    def test_numbers_are_added_up(self):
        self.assertEqual(replaced(FRAME, ("pos", "<", ("i", 2), ("n", 1)), {"i": ("j", 3)}),
                         ("pos", "<", ("j", 5), ("n", 1)))
        self.assertEqual(replaced(FRAME, ("val", "<", ("a", "i", 2, 7), ("x", 1)), {"i": ("j", 3)}),
                         ("val", "<", ("a", "j", 5, 7), ("x", 1)))
        self.assertEqual(replaced(FRAME, ("val", "<", ("x", 2), ("", 1)), {"x": ("a", "i", 1, 3)}),
                         ("val", "<", ("a", "i", 1, 5), ("", 1)))
        self.assertEqual(replaced(WIDE, ("val", "<", ("x", 2), ("y", 1)), {"x": ("y", -3)}),
                         ("val", "<", ("y", -1), ("y", 1)))
        self.assertEqual(replaced(FRAME, ("val", "==", ("x", 2), ("", 1)), {"x": ("", 5)}),
                         ("val", "==", ("", 7), ("", 1)))
        self.assertEqual(replaced(FRAME, ("pos", "<=", ("i", 2), ("j", 1)), {"i": ("", 5), "j": ("n", -1)}),
                         ("pos", "<=", ("", 7), ("n", 0)))

    def test_all_at_once(self):
        swap = {"i": ("j", 1), "j": ("i", -1)}
        self.assertEqual(replaced(FRAME, ("pos", "<=", ("i", 0), ("j", 0)), swap), ("pos", "<=", ("j", 1), ("i", -1)))
        self.assertEqual(replaced(FRAME, ("val", "<=", X, ("a", "i", 0, 0)), {"i": ("n", 0), "x": ("a", "i", 0, 0)}),
                         ("val", "<=", ("a", "i", 0, 0), ("a", "n", 0, 0)))
        self.assertEqual(replaced(FRAME, ATOM, {}), ATOM)

    def test_everywhere_and_own_names_stay(self):
        claim = ("not", ("or", (UPTO, ("and", (ATOM, ("val", "<", ("a", "i", 1, 0), X))))))
        wanted = ("not", ("or", (
            ("all", ("k",), ("and", (("pos", "<=", ("", 0), K), ("pos", "<=", K, ("n", -1)))),
             ("val", "<=", ("a", "k", 0, 0), ("a", "i", 0, 2))),
            ("and", (("pos", "<=", ("n", -1), ("j", 1)), ("val", "<", ("a", "n", 0, 0), ("a", "i", 0, 2)))))))
        self.assertEqual(replaced(FRAME, claim, {"i": ("n", -1), "x": ("a", "i", 0, 2)}), wanted)
        self.assertEqual(replaced(FRAME, TWO, {"i": ("", -4)})[2][1][1], ("pos", "==", ("l", 0), ("", 0)))
        self.assertEqual(replaced(FRAME, TWO, {"j": ("i", 5)}), TWO)

    def test_no_such_dict(self):
        for value in not_names():
            with self.subTest(repr(value)[:40]):
                if value != {}:
                    refusal(InvalidOperation, replaced, FRAME, ATOM, value)
                refusal(InvalidOperation, replaced, FRAME, ATOM, {"i": value})
                refusal(InvalidOperation, replaced, FRAME, ATOM, {"x": value})
                refusal(InvalidOperation, replaced, FRAME, ATOM, {"i": (value, 0)} if value != "" else {"i": 0})
        for key in ("n", "a", "k", "", "q", "A", None, True, 0, 1, ("i",), ("i", 0), ()):
            with self.subTest(repr(key)):
                refusal(InvalidOperation, replaced, FRAME, ATOM, {key: ("", 0)})
                refusal(InvalidOperation, replaced, FRAME, UPTO, {"i": ("j", 0), key: ("", 0)})
        for value in (X, ("a", "i", 0, 0), ("k", 0), ("a", 0), ["j", 0], ("j", True), ("j", TOO_LONG), "j"):
            refusal(InvalidOperation, replaced, FRAME, UPTO, {"i": value})
        for value in (I, ("n", 0), ("a", "k", 0, 0), ("a", "x", 0, 0), ["x", 0], ("x", False), ("a", "i", 0, TOO_LONG)):
            refusal(InvalidOperation, replaced, FRAME, UPTO, {"x": value})
        refusal(InvalidOperation, replaced, FRAME, ATOM, (("i", ("j", 0)),))

    def test_numbers_too_long(self):
        far = ("pos", "<=", ("i", 1), ("", LONG))
        self.assertEqual(replaced(FRAME, far, {"i": ("j", LONG - 1)}), ("pos", "<=", ("j", LONG), ("", LONG)))
        refusal(InvalidOperation, replaced, FRAME, far, {"i": ("j", LONG)})
        refusal(InvalidOperation, replaced, FRAME, ("val", "<", ("a", "i", 1, 0), X), {"i": ("j", LONG)})
        refusal(InvalidOperation, replaced, FRAME, ("val", "<", ("x", -1), X), {"x": ("", -LONG)})
        refusal(InvalidOperation, replaced, FRAME, ("val", "<", ("x", 1), X), {"x": ("a", "i", 0, LONG)})
        refusal(InvalidOperation, replaced, FRAME, ("not", ("all", ("k",), ("pos", "<=", ("i", 1), K), BODY)),
                {"i": ("j", LONG)})
        # A name that does not stand in the claim makes no number.
        self.assertEqual(replaced(FRAME, ("pos", "<=", ("i", 1), I), {"j": ("i", LONG)}), ("pos", "<=", ("i", 1), I))

    def test_arguments_stay_as_they_were(self):
        terms = {"j": ("i", 1), "i": ("j", 2)}
        first = replaced(FRAME, ATOM, terms)
        self.assertEqual(list(terms.items()), [("j", ("i", 1)), ("i", ("j", 2))])
        self.assertEqual(replaced(FRAME, ATOM, {"i": ("j", 2), "j": ("i", 1)}), first)


class UsedAt(unittest.TestCase):
    def test_one_own_name(self):
        self.assertEqual(used_at(FRAME, UPTO, (("j", -1),)), ("or", (
            ("not", ("and", (("pos", "<=", ("", 0), ("j", -1)), ("pos", "<=", ("j", -1), ("i", 0))))),
            ("val", "<=", ("a", "j", -1, 0), ("x", 0)))))
        self.assertEqual(used_at(FRAME, ("all", ("k",), ("or", ()), ("not", BODY)), (("", LONG),)),
                         ("or", (("not", ("or", ())), ("not", ("val", "<=", ("a", "", LONG, 0), X)))))

    def test_two_own_names(self):
        self.assertEqual(used_at(FRAME, TWO, (("i", 1), ("n", -2))), ("or", (
            ("not", ("and", (("pos", "<=", ("i", 1), ("n", -2)), ("pos", "==", ("n", -2), ("i", 4))))),
            ("val", "<", ("a", "i", 1, 1), ("a", "n", -2, 2)))))

    def test_no_all(self):
        for claim in (ATOM, ("and", ()), ("not", UPTO), ("and", (UPTO,))):
            for terms in ((I,), (), None):
                refusal(InvalidOperation, used_at, FRAME, claim, terms)

    def test_wrong_terms(self):
        for value in not_names():
            with self.subTest(repr(value)[:40]):
                refusal(InvalidOperation, used_at, FRAME, UPTO, value)
                refusal(InvalidOperation, used_at, FRAME, UPTO, (value,))
                refusal(InvalidOperation, used_at, FRAME, TWO, (I, value))
        for terms in ((), (I, J), [I], I, (("k", 0),), (X,), (("a", "i", 0, 0),), (("i", True),), (("i", TOO_LONG),)):
            refusal(InvalidOperation, used_at, FRAME, UPTO, terms)
        for terms in ((), (I,), (I, J, I), [I, J], (I, X)):
            refusal(InvalidOperation, used_at, FRAME, TWO, terms)

    def test_frames_differ(self):
        self.assertEqual(used_at(WIDE, UPTO, (("m", 0),))[1][1], ("val", "<=", ("a", "m", 0, 0), X))
        refusal(InvalidClaim, used_at, Frame((), (), ()), UPTO, (I,))


if __name__ == "__main__":
    unittest.main()
