import unittest

from cellsenough.base.frames import Frame
from cellsenough.errors import InvalidNumber, InvalidTerm
from samples import FRAME, LONG, TOO_LONG, WIDE, not_integers, not_names, refusal

WRONG_OWN = [("i",), ("a",), ("n",), ("x",), ("k", "k"), ("k", "l", "m"), ["k"], "k", {"k": 0}, ("A",), ("",), ("k", 0),
             ("k", ["l"]), (("k",),), None, True, 0, FRAME, ("z" * 9,)]


class PositionTerms(unittest.TestCase):
    def test_terms(self):
        for value in (("i", 0), ("j", -7), ("n", 3), ("", 0), ("", -1), ("i", LONG), ("n", -LONG), ("", LONG)):
            with self.subTest(value):
                self.assertIs(FRAME.is_position_term(value), True)
                self.assertIs(FRAME.is_position_term(value, own=("k", "l")), True)

    def test_no_terms(self):
        wrong = [("a", 0), ("x", 0), ("k", 0), ("q", 0), ("i",), ("i", 0, 0), ["i", 0], "i0", ("i", "j"), (0, "i"),
                 ("a", "i", 0, 0), {"i": 0}, ("i", TOO_LONG), ("i", -TOO_LONG), ("", TOO_LONG), (None, 0)]
        for value in (*wrong, *not_names()):
            with self.subTest(repr(value)[:40]):
                self.assertIs(FRAME.is_position_term(value), False)
        for value in not_integers():
            with self.subTest(repr(value)[:40]):
                self.assertIs(FRAME.is_position_term(("i", value)), False)
        for value in not_names():
            if value != "":
                with self.subTest(repr(value)[:40]):
                    self.assertIs(FRAME.is_position_term((value, 0)), False)

    def test_own_names_count_as_positions(self):
        for value in (("k", 0), ("k", 5), ("l", -LONG)):
            self.assertIs(FRAME.is_position_term(value, own=("k", "l")), True)
            self.assertIs(FRAME.is_position_term(value, own=()), False)
        self.assertIs(FRAME.is_position_term(("l", 0), own=("k",)), False)
        self.assertIs(FRAME.is_position_term(("k", TOO_LONG), own=("k",)), False)
        self.assertIs(FRAME.is_position_term(("k", True), own=("k",)), False)
        self.assertIs(FRAME.is_position_term(("i", 0), own=("abcdefgh", "z")), True)

    def test_wrong_own_names(self):
        for own in WRONG_OWN:
            with self.subTest(repr(own)):
                refusal(InvalidTerm, FRAME.is_position_term, ("i", 0), own=own)
                refusal(InvalidTerm, FRAME.is_position_term, None, own=own)
                refusal(InvalidTerm, FRAME.is_value_term, ("x", 0), own=own)
                refusal(InvalidTerm, FRAME.is_value_term, None, own=own)
        for own in not_names():
            with self.subTest(repr(own)[:40]):
                if own != ():
                    refusal(InvalidTerm, FRAME.is_position_term, ("i", 0), own=own)
                    refusal(InvalidTerm, FRAME.is_value_term, ("x", 0), own=own)
                refusal(InvalidTerm, FRAME.is_position_term, ("i", 0), own=(own,))
                refusal(InvalidTerm, FRAME.is_value_term, ("x", 0), own=("k", own))


class ValueTerms(unittest.TestCase):
    def test_terms(self):
        right = [("x", 0), ("x", -LONG), ("", 0), ("", LONG), ("a", "i", 0, 0), ("a", "n", -1, 5), ("a", "", 0, -1),
                 ("a", "j", LONG, -LONG), ("a", "", -LONG, LONG)]
        for value in right:
            with self.subTest(value):
                self.assertIs(FRAME.is_value_term(value), True)
                self.assertIs(FRAME.is_value_term(value, own=("k",)), True)

    def test_no_terms(self):
        wrong = [("i", 0), ("n", 0), ("a", 0), ("k", 0), ("x",), ("x", 0, 0), ["x", 0], ("b", "i", 0, 0),
                 ("a", "x", 0, 0), ("a", "a", 0, 0), ("a", "k", 0, 0), ("x", "i", 0, 0), ("i", "i", 0, 0),
                 ("", "i", 0, 0), ("a", "i", 0), ("a", "i", 0, 0, 0), ["a", "i", 0, 0], ("a", ("i", 0), 0),
                 ("a", ("i", 0), 0, 0), "aaaa"]
        for value in (*wrong, *not_names()):
            with self.subTest(repr(value)[:40]):
                self.assertIs(FRAME.is_value_term(value), False)
        for value in not_integers():
            with self.subTest(repr(value)[:40]):
                self.assertIs(FRAME.is_value_term(("x", value)), False)
                self.assertIs(FRAME.is_value_term(("a", "i", value, 0)), False)
                self.assertIs(FRAME.is_value_term(("a", "i", 0, value)), False)
        for value in not_names():
            with self.subTest(repr(value)[:40]):
                self.assertIs(FRAME.is_value_term((value, "i", 0, 0)), False)
                if value != "":
                    self.assertIs(FRAME.is_value_term((value, 0)), False)
                    self.assertIs(FRAME.is_value_term(("a", value, 0, 0)), False)

    def test_cells_at_own_names(self):
        for value in (("a", "k", 0, 0), ("a", "l", 5, -3), ("a", "k", -LONG, LONG)):
            self.assertIs(FRAME.is_value_term(value, own=("k", "l")), True)
            self.assertIs(FRAME.is_value_term(value), False)
        self.assertIs(FRAME.is_value_term(("k", 0), own=("k",)), False)
        self.assertIs(FRAME.is_value_term(("k", "i", 0, 0), own=("k",)), False)
        self.assertIs(FRAME.is_value_term(("a", "l", 0, 0), own=("k",)), False)


class Shifted(unittest.TestCase):
    def test_shifted(self):
        cases = [(("i", 2), 3, ("i", 5)), (("", 0), -1, ("", -1)), (("n", -1), 0, ("n", -1)), (("x", 4), -9, ("x", -5)),
                 (("a", "i", 2, -1), 3, ("a", "i", 2, 2)), (("a", "", 0, 0), 1, ("a", "", 0, 1)),
                 (("i", LONG), -LONG, ("i", 0)), (("x", -1), LONG, ("x", LONG - 1))]
        for term, number, result in cases:
            with self.subTest(term):
                self.assertEqual(FRAME.shifted(term, number), result)

    def test_no_term(self):
        for term in [("k", 0), ("a", 0), ("a", "k", 0, 0), ("i", True), ["i", 0], ("i", TOO_LONG), *not_names()]:
            with self.subTest(repr(term)[:40]):
                refusal(InvalidTerm, FRAME.shifted, term, 1)
                refusal(InvalidTerm, FRAME.shifted, term, None)

    def test_no_number(self):
        for number in not_integers():
            with self.subTest(repr(number)[:40]):
                self.assertEqual(refusal(InvalidNumber, FRAME.shifted, ("i", 0), number).given, number)
                self.assertEqual(refusal(InvalidNumber, FRAME.shifted, ("i", LONG), number).given, number)
        for number in (True, False):
            self.assertIs(refusal(InvalidNumber, FRAME.shifted, ("x", 0), number).given, number)

    def test_result_too_long(self):
        for term in (("i", LONG), ("", LONG), ("x", LONG), ("a", "i", 0, LONG)):
            with self.subTest(term[0]):
                self.assertEqual(FRAME.shifted(term, 0), term)
                refusal(InvalidTerm, FRAME.shifted, term, 1)
                refusal(InvalidTerm, FRAME.shifted, term, LONG)
        refusal(InvalidTerm, FRAME.shifted, ("i", -LONG), -1)
        # The shift of a cell stays as it was.
        self.assertEqual(FRAME.shifted(("a", "i", LONG, 0), 1), ("a", "i", LONG, 1))

    def test_frames_differ(self):
        self.assertIs(WIDE.is_value_term(("c", "m", 0, 0)), True)
        self.assertIs(FRAME.is_value_term(("c", "m", 0, 0)), False)
        self.assertIs(Frame((), (), ()).is_position_term(("", 0)), True)
        self.assertIs(Frame((), (), ()).is_position_term(("i", 0)), False)


if __name__ == "__main__":
    unittest.main()
