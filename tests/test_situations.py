import unittest

from cellsenough.base.frames import Frame
from cellsenough.errors import InvalidFrame, InvalidNumber, InvalidOperation, InvalidSituation, InvalidTerm, UnknownName
from cellsenough.world.situations import Situation
from samples import FRAME, LONG, SHOWN, TOO_LONG, WIDE, not_integers, not_names, refusal

ROWS = {"a": (4, 0, 7)}
POSITIONS = {"i": 1, "j": 2}
VALUES = {"x": 5}


def wide():
    return Situation(WIDE, {"c": (7, -8), "b": (), "a": (4, 0)}, {"j": -3, "i": 1}, {"y": 6, "x": 5})


class Made(unittest.TestCase):
    def test_told(self):
        situation = wide()
        self.assertEqual(situation.frame, WIDE)
        self.assertEqual(list(situation.rows.items()), [("a", (4, 0)), ("b", ()), ("c", (7, -8))])
        self.assertEqual(list(situation.positions.items()), [("i", 1), ("j", -3)])
        self.assertEqual(list(situation.amounts.items()), [("x", 5), ("y", 6)])
        self.assertEqual(list(situation.lengths.items()), [("m", 0), ("n", 2)])
        self.assertEqual([len(situation), len(SHOWN)], [4, 3])
        for name in ("frame", "rows", "positions", "amounts", "lengths"):
            with self.assertRaises(AttributeError):
                setattr(situation, name, {})

    def test_str(self):
        self.assertEqual(str(wide()), "a=4 0 b=- c=7 -8 | i=1 j=-3 | x=5 y=6")
        self.assertEqual(str(Situation(Frame((), (), ()), {}, {}, {})), "- | - | -")
        self.assertEqual(str(Situation(Frame((("a", "n"),), (), ("x",)), {"a": (4, 0, -1)}, {}, {"x": 0})),
                         "a=4 0 -1 | - | x=0")
        frame = Frame((("b", "n"), ("a", "n")), ("j", "i"), ("y", "x"))
        situation = Situation(frame, {"a": (1,), "b": (2,)}, {"i": 3, "j": 4}, {"x": 5, "y": 6})
        self.assertEqual(str(situation), "b=2 a=1 | j=4 i=3 | y=6 x=5")

    def test_nothing_at_all(self):
        empty = Situation(Frame((), (), ()), {}, {}, {})
        self.assertEqual([empty.rows, empty.positions, empty.amounts, empty.lengths, len(empty)], [{}, {}, {}, {}, 0])
        self.assertEqual(len(Situation(FRAME, {"a": ()}, POSITIONS, VALUES)), 0)

    def test_twelve_arrays_six_positions_six_values(self):
        frame = Frame(tuple([(name, "nm"[at % 2]) for at, name in enumerate("abcdefghijkl")]), tuple("opqrst"),
                      tuple("uvwxyz"))
        rows = {name: ((1, 2, 3), (4,))[at % 2] for at, name in enumerate("abcdefghijkl")}
        situation = Situation(frame, rows, dict.fromkeys("opqrst", -1), dict.fromkeys("uvwxyz", 2))
        self.assertEqual([len(situation), situation.lengths], [24, {"m": 1, "n": 3}])

    def test_nothing_is_shared(self):
        rows, positions, values = dict(ROWS), dict(POSITIONS), dict(VALUES)
        situation = Situation(FRAME, rows, positions, values)
        rows["a"], positions["i"], values["x"] = (), 9, 9
        rows["b"] = positions["k"] = values["y"] = 0
        self.assertEqual(situation, SHOWN)
        for told in (situation.rows, situation.positions, situation.amounts, situation.lengths):
            told.clear()
        self.assertEqual(situation, SHOWN)
        self.assertEqual([situation.lengths, str(situation)], [{"n": 3}, "a=4 0 7 | i=1 j=2 | x=5"])

    def test_arguments_stay_as_they_were(self):
        rows, positions, values = {"c": (1,), "b": (2, 3), "a": (4,)}, {"j": 0, "i": 1}, {"y": 0, "x": 1}
        Situation(WIDE, rows, positions, values)
        self.assertEqual([list(rows), list(positions), list(values)], [["c", "b", "a"], ["j", "i"], ["y", "x"]])

    def test_wrong_frame(self):
        for value in not_names():
            if value is not FRAME:
                refusal(InvalidFrame, Situation, value, ROWS, POSITIONS, VALUES)
                refusal(InvalidFrame, Situation, value, None, None, None)

    def test_wrong_rows(self):
        wrong = [{}, {"a": (), "b": ()}, {"b": ()}, {"a": [1]}, {"a": 1}, {"a": "12"}, {"a": ((1,),)}, {"n": ()},
                 {True: ()}, {("a",): ()}, [("a", ())], ((), ), {"a": (), True: ()}]
        for value in [*wrong, *not_names()]:
            with self.subTest(repr(value)[:40]):
                refusal(InvalidSituation, Situation, FRAME, value, POSITIONS, VALUES)
                refusal(InvalidSituation, Situation, FRAME, value, None, None)
        for value in not_integers():
            with self.subTest(repr(value)[:40]):
                if value != () and value != (0,):
                    refusal(InvalidSituation, Situation, FRAME, {"a": value}, POSITIONS, VALUES)
                refusal(InvalidSituation, Situation, FRAME, {"a": (1, value)}, POSITIONS, VALUES)

    def test_rows_of_other_lengths(self):
        for rows in ({"a": (1,), "b": (), "c": ()}, {"a": (), "b": (1,), "c": (1,)}, {"a": (1,), "b": (1,), "c": (1, 2)}):
            refusal(InvalidSituation, Situation, WIDE, rows, POSITIONS, {"x": 0, "y": 0})
        self.assertEqual(len(Situation(WIDE, {"a": (1,), "b": (1, 2), "c": (1,)}, POSITIONS, {"x": 0, "y": 0})), 4)

    def test_wrong_positions_and_values(self):
        for value in not_names():
            with self.subTest(repr(value)[:40]):
                refusal(InvalidSituation, Situation, FRAME, ROWS, value, VALUES)
                refusal(InvalidSituation, Situation, FRAME, ROWS, POSITIONS, value)
        for value in not_integers():
            with self.subTest(repr(value)[:40]):
                refusal(InvalidSituation, Situation, FRAME, ROWS, {"i": value, "j": 2}, VALUES)
                refusal(InvalidSituation, Situation, FRAME, ROWS, POSITIONS, {"x": value})
        for value in ({"i": 1}, {"i": 1, "j": 2, "k": 3}, {"i": 1, "k": 2}, {"i": 1, True: 2}, {"i": 1, ("j",): 2}):
            refusal(InvalidSituation, Situation, FRAME, ROWS, value, VALUES)
        for value in ({}, {"y": 1}, {"x": 1, "y": 1}, {True: 1}):
            refusal(InvalidSituation, Situation, FRAME, ROWS, POSITIONS, value)

    def test_sixty_digits(self):
        situation = Situation(FRAME, {"a": (LONG, -LONG)}, {"i": LONG, "j": -LONG}, {"x": LONG})
        self.assertEqual(situation.amounts, {"x": LONG})
        self.assertEqual(situation.rows, {"a": (LONG, -LONG)})
        self.assertEqual(str(situation), f"a={LONG} {-LONG} | i={LONG} j={-LONG} | x={LONG}")


class Read(unittest.TestCase):
    def test_cell(self):
        self.assertEqual([SHOWN.cell("a", at) for at in (-LONG, -2, -1, 0, 1, 2, 3, 4, LONG)], [0, 0, 0, 4, 0, 7, 0, 0, 0])
        self.assertEqual([wide().cell("b", at) for at in (-1, 0, 1)], [0, 0, 0])

    def test_cell_of_a_wrong_array_or_position(self):
        for value in (*not_names(), "n", "i", "x", "q"):
            with self.subTest(repr(value)[:40]):
                self.assertEqual(refusal(UnknownName, SHOWN.cell, value, 0).wanted, value)
                self.assertEqual(refusal(UnknownName, SHOWN.cell, value, None).wanted, value)
        for value in not_integers():
            with self.subTest(repr(value)[:40]):
                self.assertEqual(refusal(InvalidNumber, SHOWN.cell, "a", value).given, value)

    def test_position_at(self):
        cases = [(("i", 0), 1), (("j", -5), -3), (("n", 0), 3), (("n", 2), 5), (("", 7), 7), (("", -1), -1),
                 (("i", LONG), LONG + 1)]
        for term, number in cases:
            self.assertEqual(SHOWN.position_at(term), number)
        self.assertEqual(wide().position_at(("m", -1)), -1)
        for term in (*not_names(), ("x", 0), ("k", 0), ("a", 0), ("i", True), ("i", TOO_LONG), ["i", 0], ("a", "i", 0, 0)):
            with self.subTest(repr(term)[:40]):
                refusal(InvalidTerm, SHOWN.position_at, term)

    def test_value_at(self):
        cases = [(("x", 0), 5), (("x", -9), -4), (("", 3), 3), (("a", "i", 0, 0), 0), (("a", "i", -1, 0), 4),
                 (("a", "i", 1, 10), 17), (("a", "n", -1, 0), 7), (("a", "n", 0, 2), 2), (("a", "", 0, -1), 3),
                 (("a", "", -1, 6), 6), (("a", "j", LONG, 1), 1), (("a", "i", -2, 5), 5)]
        for term, number in cases:
            with self.subTest(term):
                self.assertEqual(SHOWN.value_at(term), number)
        for term in (*not_names(), ("i", 0), ("k", 0), ("a", 0), ("x", True), ("x", TOO_LONG), ["x", 0], ("a", "x", 0, 0),
                     ("a", "k", 0, 0), ("b", "i", 0, 0), ("a", "i", 0, False)):
            with self.subTest(repr(term)[:40]):
                refusal(InvalidTerm, SHOWN.value_at, term)


class Changed(unittest.TestCase):
    def test_with_cell(self):
        self.assertEqual(SHOWN.with_cell("a", 0, 9).rows, {"a": (9, 0, 7)})
        self.assertEqual(SHOWN.with_cell("a", 1, -LONG).rows, {"a": (4, -LONG, 7)})
        self.assertEqual(SHOWN.with_cell("a", 2, 9), Situation(FRAME, {"a": (4, 0, 9)}, POSITIONS, VALUES))
        self.assertEqual(wide().with_cell("c", 1, 1).rows, {"a": (4, 0), "b": (), "c": (7, 1)})
        self.assertEqual(SHOWN.rows, ROWS)

    def test_with_cell_of_a_wrong_place_or_number(self):
        for value in (*not_names(), "n", "i", "x", "q"):
            with self.subTest(repr(value)[:40]):
                self.assertEqual(refusal(UnknownName, SHOWN.with_cell, value, 0, 0).wanted, value)
                self.assertEqual(refusal(UnknownName, SHOWN.with_cell, value, None, None).wanted, value)
        for value in (*not_integers(), -1, 3, 4, LONG, -LONG):
            with self.subTest(repr(value)[:40]):
                self.assertEqual(refusal(InvalidNumber, SHOWN.with_cell, "a", value, 0).given, value)
                self.assertEqual(refusal(InvalidNumber, SHOWN.with_cell, "a", value, None).given, value)
        self.assertIs(refusal(InvalidNumber, SHOWN.with_cell, "a", True, 0).given, True)
        self.assertEqual(refusal(InvalidNumber, wide().with_cell, "b", 0, 0).given, 0)
        for value in not_integers():
            refusal(InvalidSituation, SHOWN.with_cell, "a", 0, value)

    def test_with_number(self):
        self.assertEqual(SHOWN.with_number("i", -9).positions, {"i": -9, "j": 2})
        self.assertEqual(SHOWN.with_number("x", LONG), Situation(FRAME, ROWS, POSITIONS, {"x": LONG}))
        self.assertEqual(SHOWN.with_number("j", 0).position_at(("j", 1)), 1)
        self.assertEqual(SHOWN.with_number("x", 0).value_at(("x", 1)), 1)
        self.assertEqual([SHOWN.positions, SHOWN.amounts], [POSITIONS, VALUES])

    def test_with_number_of_a_wrong_name_or_number(self):
        for value in (*not_names(), "n", "a", "q"):
            with self.subTest(repr(value)[:40]):
                self.assertEqual(refusal(UnknownName, SHOWN.with_number, value, 0).wanted, value)
                self.assertEqual(refusal(UnknownName, SHOWN.with_number, value, None).wanted, value)
        for value in not_integers():
            with self.subTest(repr(value)[:40]):
                refusal(InvalidSituation, SHOWN.with_number, "i", value)
                refusal(InvalidSituation, SHOWN.with_number, "x", value)

    def test_for_frame(self):
        part = Frame((("c", "n"), ("a", "n")), ("j",), ())
        self.assertEqual(wide().for_frame(part), Situation(part, {"a": (4, 0), "c": (7, -8)}, {"j": -3}, {}))
        self.assertEqual(wide().for_frame(WIDE), wide())
        self.assertEqual(str(wide().for_frame(Frame((), (), ()))), "- | - | -")
        turned = Frame((("b", "m"), ("c", "n")), ("j", "i"), ("y",))
        self.assertEqual(str(wide().for_frame(turned)), "b=- c=7 -8 | j=-3 i=1 | y=6")

    def test_for_a_wrong_frame(self):
        for value in not_names():
            if value is not FRAME:
                refusal(InvalidFrame, SHOWN.for_frame, value)
        wrong = [Frame((("b", "n"),), (), ()), Frame((("a", "m"),), (), ()), Frame((), ("k",), ()), Frame((), (), ("y",)),
                 Frame((), ("x",), ()), Frame((), (), ("i",)), Frame((("x", "n"),), (), ()), Frame((), ("n",), ()),
                 Frame((), (), ("a",)), Frame((("a", "i"),), (), ()), Frame((("a", "n"), ("b", "n")), ("i", "j"), ("x",)),
                 FRAME.with_names(positions=("k",)), FRAME.with_names(values=("y",)), Frame((("n", "a"),), (), ())]
        for frame in wrong:
            with self.subTest(str(frame)):
                refusal(InvalidOperation, SHOWN.for_frame, frame)
        # Both lengths are the same number here, and still not the same length.
        same = Situation(WIDE, {"a": (1,), "b": (2,), "c": (3,)}, POSITIONS, {"x": 0, "y": 0})
        refusal(InvalidOperation, same.for_frame, Frame((("a", "m"),), (), ()))

    def test_equality(self):
        self.assertIs(SHOWN == Situation(FRAME, dict(ROWS), {"j": 2, "i": 1}, dict(VALUES)), True)
        self.assertIs(SHOWN != Situation(FRAME, dict(ROWS), dict(POSITIONS), dict(VALUES)), False)
        other_frame = Situation(Frame((("a", "n"),), ("j", "i"), ("x",)), ROWS, POSITIONS, VALUES)
        others = [SHOWN.with_cell("a", 0, 5), SHOWN.with_number("i", 0), SHOWN.with_number("x", 0), other_frame,
                  Situation(FRAME, {"a": (4, 0)}, POSITIONS, VALUES), FRAME, str(SHOWN), ROWS]
        for other in [*others, *[value for value in not_names() if value is not SHOWN]]:
            with self.subTest(repr(other)[:40]):
                self.assertIs(SHOWN == other, False)
                self.assertIs(SHOWN != other, True)

    def test_no_iteration(self):
        refusal(TypeError, iter, SHOWN)
        refusal(TypeError, list, SHOWN)


if __name__ == "__main__":
    unittest.main()
