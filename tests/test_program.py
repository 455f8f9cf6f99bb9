import unittest

from cellsenough.base.frames import Frame
from cellsenough.code.program import MAX_INSIDE, MAX_LOOPS, MAX_NOTES, MAX_ROWS, Outline, Program, is_rows
from cellsenough.errors import InvalidClaim, InvalidFrame, InvalidNumber, InvalidOperation, InvalidProgram
from samples import ATOM, BODY, FRAME, GUARD, LONG, TOO_LONG, UPTO, WIDE, depth_by_ands, depth_by_nots, not_integers, not_names, refusal

LESS = ("pos", "<", ("i", 0), ("n", 0))
MOVE, KEEP, WRITE = ("move", "i", ("i", 1)), ("keep", "x", ("a", "i", 0, 0)), ("write", "a", "i", -1, ("x", 2))
FILL_ROWS = (("move", "i", ("", 0)), ("while", LESS, (("write", "a", "i", 0, ("x", 0)), MOVE)))
FILL = Program(FRAME, FILL_ROWS)
# Rows of every kind in one another, with their numbers as shifts of moves.
NUMBERED = (
    ("move", "i", ("", 0)),
    ("if", LESS, (("move", "i", ("", 2)), ("while", ATOM, (("move", "i", ("", 4)),)), ("move", "j", ("", 5))),
     (("while", LESS, (("if", ATOM, (), (("while", ATOM, ()), ("move", "i", ("", 9)))), ("keep", "x", ("", 10)))),)),
    ("write", "a", "i", 0, ("", 11)),
    ("while", ATOM, (("move", "i", ("", 13)),)),
)


def inside(depth, inner=(MOVE,)):
    """Rows that stand so deep in others."""
    for level in range(depth):
        inner = (("if", LESS, inner, ()) if level % 2 else ("if", LESS, (), inner),)
    return inner


class Rows(unittest.TestCase):
    def check(self, rows, answer):
        self.assertIs(is_rows(FRAME, rows), answer)
        if answer:
            self.assertEqual(Program(FRAME, rows).rows, rows)
        else:
            refusal(InvalidProgram, Program, FRAME, rows)

    def test_kinds(self):
        for row in (MOVE, KEEP, WRITE, ("move", "j", ("n", -LONG)), ("keep", "x", ("", LONG)), ("keep", "x", ("x", 1)),
                    ("write", "a", "", 3, ("a", "n", -1, 0)), ("write", "a", "n", -1, ("", 0)), ("if", ATOM, (), ()), ("while", ATOM, ()),
                    ("if", ("or", ()), (MOVE, KEEP), (WRITE,)), ("while", ("not", ("and", (ATOM, LESS))), (MOVE, WRITE))):
            with self.subTest(row):
                self.check((row,), True)
        self.check((), True)

    def test_wrong_kinds(self):
        wrong = [
            ("move", "x", ("", 0)), ("move", "n", ("", 0)), ("move", "k", ("", 0)), ("move", "i", ("x", 0)), ("move", "i"),
            ("move", "i", ("", True)), ("move", "i", ("", TOO_LONG)), ("move", "i", ("", 0), 0), ("move", "i", ("a", "i", 0, 0)),
            ["move", "i", ("", 0)], ("Move", "i", ("", 0)), ("keep", "i", ("", 0)), ("keep", "a", ("", 0)), ("keep", "x", ("i", 0)),
            ("keep", "x", ("a", "k", 0, 0)), ("keep", "x", ("a", "i", 0)), ("keep", "x"), ("write", "a", "i", 0), ("write", "b", "i", 0, ("x", 0)),
            ("write", "a", "x", 0, ("x", 0)), ("write", "a", "i", True, ("x", 0)), ("write", "a", "i", 0, ("i", 0)), ("write", "a", ("i", 0), ("x", 0)),
            ("write", "n", "i", 0, ("x", 0)), ("write", "a", "i", TOO_LONG, ("x", 0)), ("write", "a", "i", 0, ("x", 0), 0), ("if", ATOM, ()),
            ("if", ATOM, (), (), ()), ("if", ATOM, MOVE, ()), ("if", ATOM, (), [MOVE]), ("if", UPTO, (), ()), ("if", ("not", UPTO), (), ()),
            ("while", ("and", (ATOM, UPTO)), ()), ("while", ATOM), ("while", ATOM, (), ()), ("while", ATOM, [MOVE]), ("while", ATOM, None),
            ("while", GUARD, ()), ("while", BODY, ()), ("while", None, ()), ("if", ATOM, (None,), ()), ("while", ATOM, (("move",),)), (), ("move",),
        ]
        for row in wrong:
            with self.subTest(row):
                self.check((row,), False)
                self.check((MOVE, ("while", ATOM, (KEEP, row))), False)
        for value in not_names():
            with self.subTest(repr(value)[:40]):
                if value != ():
                    self.check(value, False)
                self.check((value,), False)
                for row in ((value, "i", ("", 0)), ("move", value, ("", 0)), ("move", "i", value), ("keep", value, ("", 0)), ("keep", "x", value),
                            ("write", value, "i", 0, ("x", 0)), ("write", "a", value, 0, ("x", 0)), ("write", "a", "i", 0, value)):
                    if value != "":
                        self.check((row,), False)
                if value not in (0, 1, -1, LONG) or isinstance(value, bool):
                    self.check((("write", "a", "i", value, ("x", 0)),), False)
                if value != ("and", ()):
                    self.check((("while", value, ()),), False)
                if value != ():
                    self.check((("if", ATOM, value, ()),), False)
                    self.check((("if", ATOM, (), value),), False)
        self.check([MOVE], False)
        self.check(MOVE, False)

    def test_depth_of_conditions(self):
        for depth in (11, 12, 13):
            for claim in (depth_by_nots(depth), depth_by_ands(depth)):
                self.check((("while", claim, ()),), depth == 11)
                self.check((("if", claim, (), ()),), depth == 11)

    def test_limits(self):
        self.assertEqual([MAX_ROWS, MAX_LOOPS, MAX_INSIDE, MAX_NOTES], [24, 4, 4, 8])
        self.check((MOVE,) * 24, True)
        self.check((MOVE,) * 25, False)
        self.check((MOVE,) * 12 + (("if", ATOM, (KEEP,) * 5, (WRITE,) * 6),), True)
        self.check((MOVE,) * 13 + (("if", ATOM, (KEEP,) * 5, (WRITE,) * 6),), False)
        loop = ("while", ATOM, ())
        self.check((loop,) * 4, True)
        self.check((loop,) * 5, False)
        self.check((loop, ("while", ATOM, (loop, ("if", ATOM, (), (loop,))))), True)
        self.check((loop, ("while", ATOM, (loop, ("if", ATOM, (loop,), (loop,))))), False)

    def test_rows_in_rows(self):
        for depth in range(7):
            self.check(inside(depth), depth <= 4)
            self.check((MOVE, *inside(depth)), depth <= 4)
            # An if that stands four deep can have no rows in it.
            self.check(inside(depth, (("if", LESS, (), ()),)), depth <= 4)
        loops = (MOVE,)
        for _ in range(4):
            loops = (("while", ATOM, loops),)
        self.check(loops, True)
        self.check((("if", ATOM, loops, ()),), False)

    def test_wrong_frame(self):
        for value in not_names():
            if value is not FRAME:
                refusal(InvalidFrame, is_rows, value, None)
                refusal(InvalidFrame, Program, value, None)


class Programs(unittest.TestCase):
    def test_told(self):
        self.assertEqual([FILL.frame, FILL.rows, FILL.conditions, FILL.changed], [FRAME, FILL_ROWS, (LESS,), ("a", "i")])
        self.assertEqual([len(FILL), str(FILL)], [4, "program of 4 rows, 1 loops"])
        empty = Program(FRAME, ())
        self.assertEqual([empty.conditions, empty.changed, len(empty), str(empty), list(empty)], [(), (), 0, "program of 0 rows, 0 loops", []])
        for name in ("frame", "rows", "conditions", "changed"):
            with self.assertRaises(AttributeError):
                setattr(FILL, name, ())

    def test_numbers(self):
        program = Program(FRAME, NUMBERED)
        self.assertEqual([len(program), str(program)], [14, "program of 14 rows, 4 loops"])
        rows = list(program)
        self.assertEqual(rows, [program.row(number) for number in range(14)])
        for number, row in enumerate(rows):
            if row[0] in ("move", "keep", "write"):
                self.assertEqual(row[-1], ("", number))
        self.assertEqual([rows[1], rows[3], rows[8]], [NUMBERED[1], NUMBERED[1][2][1], ("while", ATOM, ())])
        self.assertEqual([program.loop_of(number) for number in range(14)],
                         [None, None, None, None, 0, None, None, 1, 1, 1, 1, None, None, 3])
        self.assertEqual(program.conditions, (ATOM, LESS, ATOM, ATOM))
        self.assertEqual(program.changed, ("a", "i", "j", "x"))
        inner = Program(FRAME, (("while", ATOM, (("while", LESS, (MOVE,)), KEEP)),))
        self.assertEqual([inner.loop_of(number) for number in range(4)], [None, 0, 1, 0])

    def test_wrong_numbers(self):
        for value in (*not_integers(), -1, 4, LONG):
            with self.subTest(repr(value)[:40]):
                self.assertEqual(refusal(InvalidNumber, FILL.row, value).given, value)
                self.assertEqual(refusal(InvalidNumber, FILL.loop_of, value).given, value)
                self.assertEqual(refusal(InvalidNumber, FILL.with_rows, value, None).given, value)
        refusal(InvalidNumber, Program(FRAME, ()).row, 0)

    def test_with_rows(self):
        self.assertEqual(FILL.with_rows(0, ()).rows, FILL_ROWS[1:])
        self.assertEqual(FILL.with_rows(1, (MOVE, KEEP)).rows, (FILL_ROWS[0], MOVE, KEEP))
        self.assertEqual(FILL.with_rows(2, (KEEP, WRITE)).rows, (FILL_ROWS[0], ("while", LESS, (KEEP, WRITE, MOVE))))
        self.assertEqual(FILL.with_rows(3, ()).rows, (FILL_ROWS[0], ("while", LESS, FILL_ROWS[1][2][:1])))
        program = Program(FRAME, NUMBERED)
        for number in range(14):
            self.assertEqual(program.with_rows(number, (program.row(number),)), program)
            several = program.with_rows(number, (("keep", "x", ("", 99)), program.row(number)))
            self.assertEqual([list(several).index(("keep", "x", ("", 99))), len(several)], [number, 15])
        changed = program.with_rows(9, (KEEP, MOVE))
        self.assertEqual([changed.row(9), changed.row(10), changed.row(11)], [KEEP, MOVE, ("keep", "x", ("", 10))])
        self.assertEqual([FILL.rows, program.rows], [FILL_ROWS, NUMBERED])

    def test_with_wrong_rows(self):
        for value in [*not_names(), [MOVE], MOVE, (None,), (("move", "x", ("", 0)),), (MOVE,) * 22, (("while", ATOM, ()),) * 5, inside(4)]:
            if value != ():
                with self.subTest(repr(value)[:40]):
                    refusal(InvalidProgram, FILL.with_rows, 3, value)
        self.assertEqual(len(FILL.with_rows(3, (MOVE,) * 21)), 24)
        self.assertEqual(len(FILL.with_rows(3, inside(3))), 7)

    def test_renamed(self):
        names = {"a": "b", "n": "m", "i": "j", "j": "i", "x": "kk"}
        told = Program(FRAME, NUMBERED + (WRITE, KEEP)).renamed(names)
        frame = FRAME.renamed(names)
        self.assertEqual(told.frame, frame)
        other = ("pos", "<", ("j", 0), ("m", 0))
        self.assertEqual([told.row(0), told.row(1)[1], told.row(11), told.row(14), told.row(15)],
                         [("move", "j", ("", 0)), other, ("write", "b", "j", 0, ("", 11)), ("write", "b", "j", -1, ("kk", 2)),
                          ("keep", "kk", ("b", "j", 0, 0))])
        self.assertEqual([told.row(5), told.row(3)[1], told.changed], [("move", "i", ("", 5)), ("pos", "<=", ("j", 0), ("i", 1)), ("b", "i", "j", "kk")])
        self.assertEqual(told.renamed({new: old for old, new in names.items()}), Program(FRAME, NUMBERED + (WRITE, KEEP)))
        self.assertEqual(FILL.renamed({}), FILL)
        for value in (*not_names(), {"i": "j"}, {"q": "r"}, {"i": "q", "j": "q"}):
            if value != {}:
                refusal(InvalidOperation, FILL.renamed, value)
                refusal(InvalidOperation, Program(FRAME, ()).renamed, value)

    def test_add(self):
        other = Program(FRAME, (KEEP,))
        self.assertEqual([(FILL + other).rows, (other + FILL).rows], [(*FILL_ROWS, KEEP), (KEEP, *FILL_ROWS)])
        self.assertEqual([len(FILL + FILL), FILL.rows], [8, FILL_ROWS])
        for value in [*not_names(), FILL_ROWS, Program(WIDE, ()), Program(Frame((("a", "n"),), ("j", "i"), ("x",)), ())]:
            with self.subTest(repr(value)[:40]):
                refusal(InvalidOperation, lambda: FILL + value)
        refusal(InvalidProgram, lambda: FILL + FILL + FILL + FILL + FILL)
        many = Program(FRAME, (MOVE,) * 21)
        refusal(InvalidProgram, lambda: FILL + many)
        self.assertEqual(len(many + Program(FRAME, (MOVE,) * 3)), 24)

    def test_iterated(self):
        self.assertEqual(list(FILL), [FILL_ROWS[0], FILL_ROWS[1], *FILL_ROWS[1][2]])
        told = list(FILL)
        told.clear()
        self.assertEqual([row for row in FILL], list(FILL))
        self.assertEqual(len(list(FILL)), 4)

    def test_equality(self):
        self.assertIs(FILL == Program(Frame((("a", "n"),), ("i", "j"), ("x",)), FILL_ROWS), True)
        self.assertIs(FILL != Program(FRAME, FILL_ROWS), False)
        for other in [Program(FRAME, FILL_ROWS[::-1]), Program(FRAME, ()), Program(Frame((("a", "n"),), ("j", "i"), ("x",)), FILL_ROWS),
                      FILL_ROWS, *not_names()]:
            with self.subTest(repr(other)[:40]):
                self.assertIs(FILL == other, False)
                self.assertIs(FILL != other, True)


class Outlines(unittest.TestCase):
    def test_told(self):
        outline = Outline(FILL, before=(UPTO,), notes=((ATOM, LESS),), after=(ATOM, UPTO, ATOM))
        self.assertEqual([outline.program, outline.frame, outline.before, outline.notes, outline.after],
                         [FILL, FRAME, (UPTO,), ((ATOM, LESS),), (ATOM, UPTO, ATOM)])
        self.assertEqual([len(outline), str(outline)], [6, "outline of 4 rows, 6 claims"])
        bare = Outline(FILL, notes=((),))
        self.assertEqual([bare.before, bare.notes, bare.after, len(bare), str(bare)], [(), ((),), (), 0, "outline of 4 rows, 0 claims"])
        self.assertEqual(Outline(Program(FRAME, ()), notes=()).notes, ())
        for name in ("program", "frame", "before", "notes", "after"):
            with self.assertRaises(AttributeError):
                setattr(outline, name, ())

    def test_errors_in_order(self):
        for value in not_names():
            with self.subTest(repr(value)[:40]):
                refusal(InvalidProgram, Outline, value, before=None, notes=None, after=None)
                if value != ():
                    refusal(InvalidClaim, Outline, FILL, before=value, notes=((),), after=())
                    refusal(InvalidClaim, Outline, FILL, notes=(value,))
                    refusal(InvalidClaim, Outline, FILL, notes=((),), after=value)
                refusal(InvalidClaim, Outline, FILL, notes=value)
                if value != ("and", ()):
                    refusal(InvalidClaim, Outline, FILL, before=(value,), notes=((),))
                    refusal(InvalidClaim, Outline, FILL, notes=((ATOM, value),))
                    refusal(InvalidClaim, Outline, FILL, notes=((),), after=(ATOM, value))
        for notes in ((), ((), ()), [()], ((ATOM,) * 9,), ([ATOM],), (ATOM,), ((GUARD,),)):
            refusal(InvalidClaim, Outline, FILL, notes=notes)
        for many in (8, 9):
            for told in ({"before": (ATOM,) * many, "notes": ((),)}, {"notes": ((ATOM,) * many,)}, {"notes": ((),), "after": (ATOM,) * many}):
                if many == 8:
                    self.assertEqual(len(Outline(FILL, **told)), 8)
                else:
                    refusal(InvalidClaim, Outline, FILL, **told)
        refusal(TypeError, Outline, FILL)

    def test_with_notes(self):
        program = Program(FRAME, (("while", ATOM, ()), ("while", LESS, ())))
        outline = Outline(program, before=(UPTO,), notes=((ATOM,), (LESS,)), after=(ATOM,))
        self.assertEqual(outline.with_notes(0, (UPTO, LESS)), Outline(program, before=(UPTO,), notes=((UPTO, LESS), (LESS,)), after=(ATOM,)))
        self.assertEqual(outline.with_notes(1, ()).notes, ((ATOM,), ()))
        self.assertEqual(outline.notes, ((ATOM,), (LESS,)))
        for value in (*not_integers(), -1, 2, LONG):
            self.assertEqual(refusal(InvalidNumber, outline.with_notes, value, None).given, value)
        for value in [*not_names(), (None,), (ATOM,) * 9, [ATOM], ATOM, (BODY,)]:
            if value != ():
                refusal(InvalidClaim, outline.with_notes, 1, value)
        refusal(InvalidNumber, Outline(Program(FRAME, ()), notes=()).with_notes, 0, ())

    def test_equality(self):
        outline = Outline(FILL, before=(UPTO,), notes=((ATOM,),), after=(LESS,))
        self.assertIs(outline == Outline(Program(FRAME, FILL_ROWS), before=(UPTO,), notes=((ATOM,),), after=(LESS,)), True)
        self.assertIs(outline != Outline(FILL, before=(UPTO,), notes=((ATOM,),), after=(LESS,)), False)
        others = [outline.with_notes(0, ()), Outline(FILL, before=(), notes=((ATOM,),), after=(LESS,)),
                  Outline(FILL, before=(UPTO,), notes=((ATOM,),)), Outline(FILL.with_rows(0, ()), before=(UPTO,), notes=((ATOM,),), after=(LESS,))]
        for other in [*others, FILL, *not_names()]:
            with self.subTest(repr(other)[:40]):
                self.assertIs(outline == other, False)
                self.assertIs(outline != other, True)
        refusal(TypeError, iter, outline)


if __name__ == "__main__":
    unittest.main()
