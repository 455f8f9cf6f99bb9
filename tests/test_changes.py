import random
import unittest

from cellsenough.base.frames import Frame
from cellsenough.code.pieces import pieces
from cellsenough.code.program import Outline, Program
from cellsenough.code.runs import outcome
from cellsenough.errors import (
    InvalidClaim, InvalidFrame, InvalidNumber, InvalidOperation, InvalidProgram, TooMany)
from cellsenough.keep.changes import do_commute, do_work_alike, parting_rows, unrolled
from cellsenough.keep.notes import is_kept
from cellsenough.logic.claims import all_between
from cellsenough.world.listing import situations
from cellsenough.world.situations import Situation
from outlines import FILLED, I, J, N, WEAK, X, ZERO, Outlines, behind_one_another, cell, greatest, insertion, le, lt, refused_sizes
from samples import ATOM, FRAME, LONG, SHOWN, TOO_LONG, UPTO, depth_by_nots, not_integers, not_names, refusal
from test_pieces import bare
from test_program import FILL

SHARED = Frame((("a", "n"), ("b", "n")), ("i", "j"), ("x",))
TWO = (("write", "a", "i", 0, ("x", 0)), ("write", "a", "j", 0, ("x", 1)))
MOVE, KEEP, WRITE = ("move", "i", ("i", 1)), ("keep", "x", cell("i")), ("write", "a", "i", 0, X)
IF = ("if", ATOM, (MOVE,), (KEEP,))
AT_I = ("val", "<", cell("i"), X)


def end(frame, rows, situation):
    """How a run of rows without loops ends; all faults are alike."""
    told = outcome(Program(frame, rows), situation)
    return ("fault",) if told[0] == "fault" else told[:2]


class Rows(Outlines):
    """Random rows without loops for SHARED, and changes of them."""

    def place(self):
        return (self.random.choice(("i", "j", "n", "", "i")), self.random.choice((0, 0, 0, 1, -1)))

    def amount(self, own):
        kind = self.random.randrange(4)
        if kind < 2:
            return (("x", "")[kind], self.random.choice((0, 0, 1)))
        return (self.random.choice("ab"), *self.place(), 0)

    def row(self, depth):
        kind = self.random.randrange(4 if depth else 3)
        if kind == 0:
            return ("move", self.random.choice("ij"), self.place())
        if kind == 1:
            return ("keep", "x", self.amount(()))
        if kind == 2:
            return ("write", self.random.choice("ab"), *self.place(), self.amount(()))
        return ("if", self.condition(1), self.rows(0, 2), self.rows(0, 1))

    def changed(self, rows):
        told = list(rows)
        kind = self.random.randrange(4)
        if kind == 0:
            self.random.shuffle(told)
        elif kind == 1 and told:
            told[self.random.randrange(len(told))] = self.row(1)
        elif kind == 2:
            told.insert(self.random.randrange(len(told) + 1), self.row(0))
        return tuple(told)


def count_rows(rows):
    return sum([1 + sum(map(count_rows, row[2:])) if row[0] == "if" else 1 for row in rows])


class Alike(unittest.TestCase):
    def check(self, frame, one, other, given, wanted=None):
        answer = do_work_alike(frame, one, other, given)
        self.assertIs(do_work_alike(frame, other, one, given), answer)
        if wanted is not None:
            self.assertIs(answer, wanted)
        for first, second in ((one, other), (other, one)):
            if answer:
                refusal(InvalidOperation, parting_rows, frame, first, second, given)
                continue
            shown = parting_rows(frame, first, second, given)
            self.assertEqual(shown.frame, frame)
            self.assertTrue(all(shown.holds(claim) for claim in given))
            self.assertNotEqual(end(frame, first, shown), end(frame, second, shown))
        return answer

    def test_by_hand(self):
        apart = ("not", ("pos", "==", I, J))
        inside = ("and", (le(ZERO, I), lt(I, N)))
        swap = (("keep", "x", cell("i")), ("write", "a", "i", 0, cell("j")), ("write", "a", "j", 0, X))
        back = (("keep", "x", cell("j")), ("write", "a", "j", 0, cell("i")), ("write", "a", "i", 0, X))
        for one, other, given, wanted in [
            ((), (), (), True), ((MOVE,), (), (), False), ((MOVE,), (), (("or", ()),), True), ((MOVE,), (MOVE,), (), True),
            (TWO, TWO[::-1], (), False), (TWO, TWO[::-1], (apart,), True), (TWO, TWO[::-1], (lt(I, J),), True),
            (TWO, TWO[1:], (("pos", "==", I, J),), True), (TWO, TWO[1:], (), False),
            ((("move", "i", I),), (), (), True), ((("keep", "x", X),), (), (), True),
            # A row that does nothing, but asks a cell.
            ((("write", "a", "i", 0, cell("i")),), (), (), False), ((("write", "a", "i", 0, cell("i")),), (), (inside,), True),
            ((("keep", "x", cell("i")), ("keep", "x", ("", 3))), (("keep", "x", ("", 3)),), (inside,), True),
            ((("keep", "x", cell("i")), ("keep", "x", ("", 3))), (("keep", "x", ("", 3)),), (), False),
            ((("if", AT_I, (), ()),), (), (), False), ((("if", AT_I, (), ()),), (), (inside,), True),
            # Both have a fault, whichever.
            ((("keep", "x", cell("", -1)),), (("write", "a", "n", 0, X),), (), True),
            ((WRITE, MOVE), (MOVE, ("write", "a", "i", -1, X)), (), True), ((MOVE, KEEP), (KEEP, MOVE), (), False),
            (swap, back, (), False), ((*swap, ("keep", "x", ZERO)), (*back, ("keep", "x", ZERO)), (), True),
            ((("if", ATOM, (MOVE,), ()),), (("if", ("not", ATOM), (), (MOVE,)),), (), True),
            ((("if", ATOM, (MOVE,), ()),), (MOVE,), (ATOM,), True), ((("if", ATOM, (MOVE,), ()),), (MOVE,), (), False),
            ((("if", AT_I, (("keep", "x", ZERO),), (("keep", "x", ZERO),)),), (("keep", "x", cell("i")), ("keep", "x", ZERO)), (), True),
            # A part that is not needed asks nothing.
            ((("if", ("and", (("or", ()), AT_I)), (), ()),), (), (), True), ((("if", ("or", (("and", ()), AT_I)), (), ()),), (), (), True),
            ((("if", ("and", (AT_I, ("or", ()))), (), ()),), (), (), False),
            ((("if", ("and", (inside, AT_I)), (MOVE,), ()),), (("if", ("and", (inside, AT_I)), (MOVE,), ()),), (), True),
            ((("if", ("not", ("and", (inside, AT_I))), (), (MOVE,)),), (("if", ("and", (inside, AT_I)), (MOVE,), ()),), (), True),
        ]:
            with self.subTest(one=one, other=other, given=given):
                self.check(FRAME, one, other, given, wanted)

    def test_claims_with_alls(self):
        same = all_between(SHARED, ZERO, ("n", -1), "==", cell("k"), cell("k", array="b"))
        copy = ("write", "a", "i", 0, cell("i", array="b"))
        self.check(SHARED, (copy,), (), (same,), False)
        self.check(SHARED, (copy,), (("keep", "x", X),), (same, le(ZERO, I), lt(I, N)), True)
        self.check(SHARED, (copy,), (), (("not", same), le(ZERO, I), lt(I, N)), False)
        own = ("all", ("wa", "wb"), ("and", ()), ("val", "<=", cell("wa"), cell("wb")))
        self.check(SHARED, TWO, TWO[::-1], (own, ("pos", "<", I, J)), True)

    def test_arrays_that_were_written_at_equal_places(self):
        one = (("write", "a", "i", 0, X), ("write", "b", "i", 0, X))
        self.check(SHARED, one, one[::-1], (), True)
        self.check(SHARED, one, (one[0], ("write", "b", "i", 0, cell("i"))), (), True)
        self.check(SHARED, one, (one[0], ("write", "b", "i", 0, cell("j"))), (), False)
        self.check(SHARED, one, (one[0], ("write", "b", "i", 0, cell("j"))), (("pos", "==", ("j", 1), ("i", 1)),), True)

    def test_random(self):
        counted = {True: 0, False: 0}
        every = list(situations(SHARED, 1, 0, 1))
        for seed in range(600):
            maker = Rows(seed)
            one = maker.rows(1)
            other = maker.changed(one)
            given = tuple([maker.condition(1) for _ in range(maker.random.randrange(3))])
            words = [[row[0] for row in Program(SHARED, rows)] for rows in (one, other)]
            if any(told.count("write") > 2 or told.count("if") > 2 or len(told) > 8 for told in words):
                continue
            with self.subTest(seed):
                answer = self.check(SHARED, one, other, given)
                counted[answer] += 1
                if answer:
                    for situation in every:
                        if all(situation.holds(claim) for claim in given):
                            self.assertEqual(end(SHARED, one, situation), end(SHARED, other, situation))
        self.assertGreater(min(counted.values()), 150)

    def test_commute(self):
        self.assertEqual([do_commute(FRAME, *TWO), do_commute(FRAME, *TWO, (lt(I, J),)), do_commute(FRAME, *TWO[::-1], (lt(I, J),))],
                         [False, True, True])
        for seed in range(200):
            maker = Rows(seed)
            one, other = maker.row(0), maker.row(0)
            given = tuple([maker.condition(1) for _ in range(maker.random.randrange(3))])
            self.assertIs(do_commute(SHARED, one, other, given), do_work_alike(SHARED, (one, other), (other, one), given))

    def test_greatest_sizes(self):
        frame = Frame(tuple([(letter, "n" + letter) for letter in "abcdefgh"]), tuple("ijklmo"), tuple("uvwxyz"))
        writes = (("write", "a", "i", 999, ("x", 10 ** 50 - 1)), ("write", "h", "j", -999, ("h", "k", 999, 1 - 10 ** 50)))
        moves = (("move", "i", ("i", 999)), ("move", "j", ("j", -999)))
        atoms = ("and", tuple([("val", "<=", ("a", "k", shift, 0), ("b", "l", shift, shift)) for shift in range(8)]))
        tests = (("if", atoms, (("keep", "x", ("y", 1)),), ()), ("if", ("not", atoms), (), ()))
        given = (("val", "<=", ("a", "i", 999, LONG), ("x", -LONG)),) * 6
        rows = (*moves, *writes, *tests)
        self.assertEqual(count_rows(rows), 7)
        self.check(frame, rows, (*writes, *moves, *tests), (), False)
        self.assertIs(do_work_alike(frame, rows, (*moves, *writes[::-1], *tests), given), True)

    def test_frames_that_leave_few_names(self):
        ones = ["k" * many for many in range(1, 9)]
        frame = Frame((("wa", "wb"), ("wc", "wd")), tuple(ones[:6]), tuple(ones[6:]))
        place, value = ones[0], (ones[7], 0)
        one = (("write", "wa", place, 0, value), ("write", "wc", ones[1], 0, value))
        self.check(frame, one, one[::-1], (), True)
        self.check(frame, one, (("write", "wa", place, 0, value), ("write", "wa", ones[1], 0, value)), (), False)

    def test_values_of_many_digits(self):
        rows = (("keep", "x", ("x", 10 ** 50 - 1)), ("keep", "x", ("x", 10 ** 50 - 1)))
        self.check(FRAME, rows, (("keep", "x", ("x", 10 ** 50 - 1)), ("keep", "x", ("x", 10 ** 50 - 2))), (), False)
        given = (("val", "==", X, ("", LONG)), ("val", "==", cell("i"), ("", -LONG)))
        shown = parting_rows(FRAME, rows, (), given)
        self.assertEqual([shown.amounts["x"], shown.value_at(cell("i"))], [LONG, -LONG])


class Limits(unittest.TestCase):
    def refused(self, error, *args):
        return [refusal(error, call, *args) for call in (do_work_alike, parting_rows)]

    def test_errors_in_order(self):
        for value in not_names():
            if value != FRAME:
                self.refused(InvalidFrame, value, None, None, None)
                refusal(InvalidFrame, do_commute, value, None, None, None)
        wrong = [*[value for value in not_names() if value != ()], [MOVE], MOVE, (MOVE, None), (("move", "x", I),), (("while", ATOM, ()),),
                 (("if", ATOM, (("while", ATOM, ()),), ()),), (MOVE,) * 25, (("if", depth_by_nots(12), (), ()),)]
        for value in wrong:
            self.refused(InvalidProgram, FRAME, value, None, None)
            self.refused(InvalidProgram, FRAME, (), value, None)
        for value in ([], [ATOM], (ATOM,) * 7, (None,), ATOM, ("and", ()), None, (("pos", "<", I, ("k", 0)),)):
            self.refused(InvalidClaim, FRAME, (WRITE,) * 3, (), value)
            refusal(InvalidClaim, do_commute, FRAME, MOVE, KEEP, value)
        self.assertIs(do_work_alike(FRAME, (), (), (ATOM,) * 6), True)

    def test_rows_that_do_not_commute_with_others(self):
        wrong = [IF, ("while", ATOM, ()), (MOVE,), (), ["move", "i", I], ("move", "x", I), ("write", "a", "i", 0), None, "move"]
        for value in [*wrong, *not_names()]:
            refusal(InvalidProgram, do_commute, FRAME, value, None, None)
            refusal(InvalidProgram, do_commute, FRAME, MOVE, value, None)

    def test_two_writes_and_two_ifs(self):
        empty = ("if", ATOM, (), ())
        for rows in ((WRITE,) * 3, (empty,) * 3, (("if", ATOM, (WRITE,), (WRITE, WRITE)),), (("if", ATOM, (empty,), (empty,)),),
                     (*[MOVE] * 9, *[WRITE] * 3)):
            for pair in ((rows, ()), ((), rows)):
                self.assertEqual([error.limit for error in self.refused(TooMany, FRAME, *pair)], [2, 2])
        rows = (WRITE, ("if", ATOM, (WRITE,), (empty,)))
        self.assertIs(do_work_alike(FRAME, rows, rows), True)

    def test_sizes(self):
        wide = Frame(tuple([(letter, "n") for letter in "abcdefghm"]), ("i", "j"), ("x",))
        self.refused(InvalidOperation, wide, (), ())
        refusal(InvalidOperation, do_commute, wide, MOVE, KEEP)
        self.assertIs(do_work_alike(FRAME, (MOVE,) * 8, (MOVE,) * 8), True)
        eight = ("and", (ATOM,) * 8)
        self.assertIs(do_work_alike(FRAME, (("if", eight, (), ()),), ()), True)
        long = 10 ** 50
        wrong = [(MOVE,) * 9, (("if", ATOM, (MOVE,) * 4, (MOVE,) * 4),), (("if", ("and", (ATOM, eight)), (), ()),),
                 (("if", ("not", ("or", (eight, eight))), (), ()),), (("move", "i", ("i", 1000)),), (("move", "i", ("", -1000)),),
                 (("keep", "x", cell("i", 1000)),), (("keep", "x", ("x", long)),), (("keep", "x", cell("i", 0, -long)),),
                 (("write", "a", "i", -1000, X),), (("write", "a", "i", 0, cell("j", 1000)),), (("write", "a", "i", 0, ("", long)),),
                 (("if", lt(("i", 1000), J), (), ()),), (("if", ("val", "<", cell("i", -1000), X), (), ()),),
                 (("if", ("val", "<", X, ("x", long)), (), ()),), (("if", ("val", "<", ("x", long), X), (), ()),), (("if", ATOM, (), (("keep", "x", ("x", -long)),)),)]
        for rows in wrong:
            with self.subTest(rows):
                self.refused(InvalidOperation, FRAME, rows, ())
                self.refused(InvalidOperation, FRAME, (), rows)
        for claim in (lt(("i", 1000), J), ("not", ("val", "<", cell("i", -1000), X)), all_between(FRAME, ("i", 1000), J, "<", X, X),
                      all_between(FRAME, I, J, "<", X, cell("j", 1000))):
            self.refused(InvalidOperation, FRAME, (), (), (claim,))
            refusal(InvalidOperation, do_commute, FRAME, MOVE, KEEP, (claim,))
        # Values in the given claims can have all sixty digits.
        self.assertIs(do_work_alike(FRAME, (), (), (("val", "<", X, cell("i", 999, LONG)), le(("i", -999), J))), True)

    def test_no_question_is_too_large(self):
        wide = ("and", tuple([("val", "<=", cell("i", shift), cell("j", shift)) for shift in range(1, 12)]))
        self.assertIs(do_work_alike(FRAME, TWO, TWO[::-1], (wide, ("pos", "<", ("i", 500), J))), True)
        self.assertIs(do_work_alike(FRAME, TWO, TWO[::-1], (wide, ("pos", "<", ("i", -500), J))), False)


class Unrolled(unittest.TestCase):
    def test_fill(self):
        loop = FILL.rows[1]
        found = unrolled(FILLED, 0)
        self.assertEqual(found.program.rows, (FILL.rows[0], ("if", loop[1], (*loop[2], loop), ())))
        self.assertEqual([found.before, found.notes, found.after], [FILLED.before, FILLED.notes, FILLED.after])
        self.assertEqual([is_kept(found), is_kept(unrolled(found, 0)), is_kept(unrolled(WEAK, 0))], [True, True, False])
        self.assertEqual(FILLED.program, FILL)

    def test_an_inner_loop(self):
        outline = insertion()
        found = unrolled(outline, 1)
        self.assertEqual([len(found.program), found.notes, found.frame], [len(outline.program) + 3, outline.notes, FRAME])
        self.assertIs(is_kept(found), True)
        refusal(InvalidOperation, unrolled, outline, 0)
        self.assertEqual(unrolled(bare(("while", ATOM, ())), 0).program.rows, (("if", ATOM, (("while", ATOM, ()),), ()),))

    def test_runs_and_kept_ones(self):
        kept = 0
        for seed in range(900):
            maker = Outlines(seed)
            outline = maker.outline()
            outline = Outline(outline.program, before=outline.before, notes=outline.notes)
            for loop in range(len(outline.notes)):
                found = refused_sizes(unrolled, outline, loop)
                if found is None:
                    continue
                self.assertEqual([found.before, found.notes, found.after], [outline.before, outline.notes, outline.after])
                for _ in range(3):
                    situation = maker.situation()
                    told = outcome(outline.program, situation, most=30)
                    other = outcome(found.program, situation, most=40)
                    self.assertEqual(told[0] if told[0] == "long" else other[0], told[0])
                    if told[0] == "done":
                        self.assertEqual(other[1], told[1])
                if refused_sizes(is_kept, outline) and refused_sizes(is_kept, found) is not None:
                    kept += 1
                    self.assertIs(is_kept(found), True)
        self.assertGreater(kept, 15)

    def test_errors_in_order(self):
        for value in (*not_names(), FILL):
            refusal(InvalidProgram, unrolled, value, None)
        for value in (*[value for value in not_integers() if value != 0], -1, 2, 1.5):
            self.assertEqual(refusal(InvalidNumber, unrolled, insertion(), value).given, value)
        # Too many rows, or rows that stand too deep.
        long = bare(("while", ATOM, (MOVE,) * 12))
        refusal(InvalidProgram, unrolled, long, 0)
        self.assertEqual(len(unrolled(bare(("while", ATOM, (MOVE,) * 11)), 0).program), 24)
        deep = (MOVE,)
        for _ in range(3):
            deep = (("if", ATOM, deep, ()),)
        refusal(InvalidProgram, unrolled, bare(("while", ATOM, deep)), 0)
        self.assertEqual(len(unrolled(bare(("while", ATOM, deep[0][2])), 0).program), 8)
        nested = bare(("while", ATOM, (("if", ATOM, (("while", ATOM, (MOVE,) * 20),), ()),)))
        refusal(InvalidOperation, unrolled, nested, 0)
        refusal(InvalidProgram, unrolled, nested, 1)


if __name__ == "__main__":
    unittest.main()
