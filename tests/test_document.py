"""All examples of the document for its first three headings."""

import unittest

from cellsenough.base.frames import Frame, is_name
from cellsenough.logic.claims import all_between, claim_depth, is_claim, names_of, plain_claim, replaced, used_at
from cellsenough.world.situations import Situation

FRAME = Frame((("a", "n"),), ("i", "j"), ("x",))
UPTO = ("all", ("k",), ("and", (("pos", "<=", ("", 0), ("k", 0)), ("pos", "<=", ("k", 0), ("i", 0)))), ("val", "<=", ("a", "k", 0, 0), ("x", 0)))


class Examples(unittest.TestCase):
    def test_outside_of_an_array(self):
        claim = ("all", ("k",), ("and", ()), ("val", "<=", ("a", "k", 0, 0), ("x", 0)))
        for x in (-2, -1, 0, 1):
            situation = Situation(FRAME, {"a": (-3,)}, {"i": 0, "j": 0}, {"x": x})
            self.assertIs(situation.holds(claim), x >= 0)

    def test_frames(self):
        told = [FRAME.lengths, FRAME.kind_of("j"), FRAME.is_value_term(("a", "i", 2, -1)), FRAME.is_position_term(("x", 0)), FRAME.shifted(("a", "i", 2, -1), 3), str(FRAME), len(FRAME)]
        self.assertEqual(told, [('n',), 'position', True, False, ('a', 'i', 2, 2), 'a:n | i j | x', 5])
        self.assertEqual(str(Frame((("a", "n"), ("b", "n")), ("i", "j"), ("x",))), "a:n b:n | i j | x")
        self.assertIs(is_name("abcdefgh"), True)

    def test_claims(self):
        told = [is_claim(FRAME, UPTO), names_of(FRAME, UPTO), claim_depth(FRAME, UPTO), UPTO == all_between(FRAME, ("", 0), ("i", 0), "<=", ("a", "k", 0, 0), ("x", 0))]
        self.assertEqual(told, [True, ('a', 'i', 'x'), 3, True])
        told = plain_claim(FRAME, ("and", (("pos", "==", ("i", 0), ("j", 1)), ("val", "<", ("x", 0), ("", 3)))), is_true=False)
        self.assertEqual(told, ('or', (('or', (('pos', '<', ('i', 0), ('j', 1)), ('pos', '<', ('j', 1), ('i', 0)))), ('val', '<=', ('', 3), ('x', 0)))))
        self.assertEqual(used_at(FRAME, UPTO, (("j", -1),))[1][1], ('val', '<=', ('a', 'j', -1, 0), ('x', 0)))

    def test_replaced(self):
        frame = Frame((("a", "n"),), ("x", "y"), ("v",))
        terms = {"x": ("y", 3), "v": ("a", "y", 1, 3)}
        self.assertEqual(replaced(frame, ("pos", "<", ("x", 2), ("y", 0)), terms), ("pos", "<", ("y", 5), ("y", 0)))
        self.assertEqual(replaced(frame, ("val", "<", ("a", "x", 2, 9), ("v", 2)), terms),
                         ("val", "<", ("a", "y", 5, 9), ("a", "y", 1, 5)))

    def test_situations(self):
        SHOWN = Situation(FRAME, {"a": (4, 0, 7)}, {"i": 1, "j": 2}, {"x": 5})
        told = [SHOWN.holds(UPTO), SHOWN.with_number("i", 2).failure(UPTO), SHOWN.value_at(("a", "j", 1, 3)), SHOWN.lengths, str(SHOWN), SHOWN.holds(("all", ("k",), ("and", ()), ("val", "<", ("a", "k", 0, 0), ("", 0))))]
        self.assertEqual(told, [True, (2,), 3, {'n': 3}, 'a=4 0 7 | i=1 j=2 | x=5', False])


if __name__ == "__main__":
    unittest.main()
