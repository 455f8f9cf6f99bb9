import random
import time
import unittest

from cellsenough.base.frames import Frame
from cellsenough.code.program import Outline, Program
from cellsenough.code.runs import Run, first_break, outcome
from cellsenough.errors import InvalidNumber, InvalidOperation, InvalidProgram, InvalidSituation, NothingToUndo
from cellsenough.logic.claims import all_between
from cellsenough.world.situations import Situation
from samples import ATOM, FRAME, LONG, SHOWN, not_integers, not_names, refusal
from test_program import FILL, FILL_ROWS, KEEP, LESS, MOVE, NUMBERED, WRITE

ONES = Situation(FRAME, {"a": (1, 2, 3)}, {"i": 9, "j": 0}, {"x": 5})
I, J, N, X = ("i", 0), ("j", 0), ("n", 0), ("x", 0)
ALWAYS, NEVER = ("and", ()), ("or", ())
SPIN = ("while", ALWAYS, ())
SAME = all_between(FRAME, ("", 0), ("i", -1), "==", ("a", "k", 0, 0), X)
LOW = all_between(FRAME, ("", 0), ("n", -1), "<=", ("a", "", 0, 0), ("a", "k", 0, 0))


def program(*rows):
    return Program(FRAME, rows)


def at(*row, i=0, j=0, x=0):
    return Situation(FRAME, {"a": row}, {"i": i, "j": j}, {"x": x})


def cell(name, shift=0, number=0):
    return ("a", name, shift, number)


def by_hand(rows, situation, most):
    """The trail, the last situation and whether it was done, by going through the rows; None in it is a fault."""
    trail = []

    def sizes(rows):
        return sum([1 + sum([sizes(inner) for inner in row[2:] if row[0] in ("if", "while")]) for row in rows])

    class Stop(Exception):
        pass

    state = [situation]

    def asked(term):
        if len(term) == 4 and not 0 <= state[0].position_at(term[1:3]) < len(state[0].rows[term[0]]):
            raise Stop("fault")

    def true(claim):
        if claim[0] in ("pos", "val"):
            for term in claim[2:]:
                if claim[0] == "val":
                    asked(term)
            return state[0].holds(claim)
        if claim[0] == "not":
            return not true(claim[1])
        if claim[0] == "and":
            return all(true(part) for part in claim[1])
        return any(true(part) for part in claim[1])

    def count(number):
        trail.append(number)

    def ready(number):
        if len(trail) == most:
            raise Stop(number)

    def go(rows, number):
        for row in rows:
            ready(number)
            if row[0] == "move":
                state[0] = state[0].with_number(row[1], state[0].position_at(row[2]))
                count(number)
            elif row[0] == "keep":
                asked(row[2])
                state[0] = state[0].with_number(row[1], state[0].value_at(row[2]))
                count(number)
            elif row[0] == "write":
                asked(row[4])
                asked((row[1], row[2], row[3], 0))
                state[0] = state[0].with_cell(row[1], state[0].position_at(row[2:4]), state[0].value_at(row[4]))
                count(number)
            elif row[0] == "if":
                answer = true(row[1])
                count(number)
                go(row[2] if answer else row[3], number + 1 + (0 if answer else sizes(row[2])))
            else:
                while true(row[1]):
                    count(number)
                    go(row[2], number + 1)
                    ready(number)
                count(number)
            number += 1 + sum([sizes(inner) for inner in row[2:] if row[0] in ("if", "while")])

    try:
        go(rows, 0)
    except Stop as stop:
        return tuple(trail), state[0], stop.args[0]
    return tuple(trail), state[0], "done"


class Maker:
    """Rows and situations, the same ones for the same seed."""

    def __init__(self, seed):
        self.random = random.Random(seed)

    def place(self):
        return (self.random.choice(("i", "j", "n", "")), self.random.randint(-1, 1))

    def amount(self):
        return self.random.choice((("x", self.random.randint(-1, 1)), ("", 2), ("a", *self.place(), 0), ("a", *self.place(), 1)))

    def condition(self, depth):
        kind = self.random.randrange(5) if depth else self.random.randrange(2)
        if kind == 0:
            return ("pos", self.random.choice(("<", "<=", "==")), self.place(), self.place())
        if kind == 1:
            return ("val", self.random.choice(("<", "<=", "==")), self.amount(), self.amount())
        if kind == 2:
            return ("not", self.condition(depth - 1))
        return (("and", "or")[kind - 3], tuple([self.condition(depth - 1) for _ in range(self.random.randrange(4))]))

    def rows(self, depth):
        return tuple([self.row(depth) for _ in range(self.random.randrange(1, 4))])

    def row(self, depth):
        kind = self.random.randrange(7) if depth else self.random.randrange(4)
        if kind < 2:
            return ("move", self.random.choice("ij"), self.place())
        if kind == 2:
            return ("keep", "x", self.amount())
        if kind == 3:
            return ("write", "a", *self.place(), self.amount())
        if kind == 4:
            return ("while", self.condition(2), self.rows(depth - 1))
        return ("if", self.condition(2), self.rows(depth - 1), self.rows(depth - 1) if kind == 5 else ())

    def situation(self):
        row = [self.random.randint(-1, 2) for _ in range(self.random.randrange(5))]
        return at(*row, i=self.random.randint(-1, 4), j=self.random.randint(-1, 4), x=self.random.randint(0, 2))


class Steps(unittest.TestCase):
    def test_by_hand(self):
        ended = {"done": 0, "fault": 0, "long": 0}
        for seed in range(1500):
            maker = Maker(seed)
            rows = maker.rows(2)
            if sum([repr(rows).count(word) for word in ("move", "keep", "write", "if", "while")]) > 24 or repr(rows).count("while") > 4:
                continue
            situation = maker.situation()
            trail, last, word = by_hand(rows, situation, 40)
            run = Run(program(*rows), situation)
            with self.subTest(seed):
                self.assertEqual(run.go_on(most=40), len(trail))
                self.assertEqual([run.trail, run.situation], [trail, last])
                told = outcome(program(*rows), situation, most=40)
                if word == "done":
                    self.assertEqual([run.is_done(), run.next_row, told], [True, None, ("done", last, len(trail))])
                elif word == "fault":
                    self.assertEqual([run.is_faulty(), run.is_done(), told], [True, False, ("fault", run.next_row, len(trail))])
                else:
                    self.assertEqual([run.is_done(), run.next_row], [False, word])
                    if run.is_faulty():
                        self.assertEqual(told, ("fault", word, 40))
                    else:
                        self.assertEqual(told, ("long", last, 40))
                ended[told[0]] += 1
                if trail:
                    self.assertEqual(run.undo(many=len(trail)), trail[::-1])
                self.assertEqual([run.situation, run.next_row, run == Run(program(*rows), situation)], [situation, 0, True])
        self.assertGreater(min(ended.values()), 50)

    def test_rows(self):
        for row, situation in [
            (("move", "i", ("n", -1)), SHOWN.with_number("i", 2)), (("move", "i", ("i", 7)), SHOWN.with_number("i", 8)),
            (("keep", "x", cell("j", 0, -3)), SHOWN.with_number("x", 4)), (("keep", "x", ("x", 2)), SHOWN.with_number("x", 7)),
            (("write", "a", "j", -2, cell("j", 0, 1)), SHOWN.with_cell("a", 0, 8)), (("write", "a", "i", 0, cell("i", 0, 5)), SHOWN.with_cell("a", 1, 5)),
        ]:
            with self.subTest(row):
                run = Run(program(row), SHOWN)
                self.assertEqual([run.go(), run.situation, run.is_done(), run.next_row, run.steps], [0, situation, True, None, 1])
                self.assertEqual([run.undo(), run.situation], [(0,), SHOWN])

    def test_told(self):
        run = Run(FILL, ONES)
        self.assertEqual([run.next_row, run.steps, len(run), run.trail, run.situation, str(run)], [0, 0, 0, (), ONES, "run at 0: 0 steps"])
        self.assertEqual([run.go(), run.go(), run.go(), run.go(), run.next_row], [0, 1, 2, 3, 1])
        self.assertEqual([run.steps, len(run), run.trail, str(run)], [4, 4, (0, 1, 2, 3), "run at 1: 4 steps"])
        self.assertEqual([run.go_on(), str(run), run.situation], [7, "run: done, 11 steps", at(5, 5, 5, i=3, x=5)])
        refusal(InvalidOperation, run.go)
        self.assertEqual([run.go_on(), run.is_faulty(), run.is_done()], [0, False, True])
        for name in ("situation", "next_row", "steps", "trail"):
            with self.assertRaises(AttributeError):
                setattr(run, name, 0)

    def test_no_rows(self):
        run = Run(program(), ONES)
        self.assertEqual([run.is_done(), run.next_row, run.is_faulty(), str(run), run.go_on()], [True, None, False, "run: done, 0 steps", 0])
        self.assertEqual(outcome(program(), ONES), ("done", ONES, 0))
        refusal(InvalidOperation, run.go)

    def test_empty_branches_and_loops(self):
        rows = program(("if", ALWAYS, (), (MOVE,)), ("if", NEVER, (MOVE,), ()), ("while", NEVER, ()), ("if", NEVER, (), ()))
        self.assertEqual(outcome(rows, ONES), ("done", ONES, 4))
        spin = Run(program(SPIN), ONES)
        self.assertEqual([spin.go_on(most=7), spin.trail, spin.is_done()], [7, (0,) * 7, False])
        inner = Run(program(("while", ALWAYS, (("if", ALWAYS, (("if", NEVER, (MOVE,), ()),), ()),))), ONES)
        self.assertEqual([inner.go_on(most=7), inner.trail], [7, (0, 1, 2, 0, 1, 2, 0)])

    def test_numbers_longer_than_passed_ones(self):
        rows = program(("while", ALWAYS, (("move", "i", ("i", LONG)), ("keep", "x", ("x", -LONG)), ("write", "a", "", 0, ("x", -LONG)))))
        kind, situation, _ = outcome(rows, at(0), most=4000)
        self.assertEqual([kind, situation.positions["i"], situation.amounts["x"], situation.rows["a"]],
                         ["long", 1000 * LONG, -1000 * LONG, (-1001 * LONG,)])
        run = Run(rows, at(0))
        run.go_on(most=400)
        run.undo(many=399)
        self.assertEqual([run.situation, run.trail], [at(0), (0,)])


class Faults(unittest.TestCase):
    def check(self, row, situation, is_faulty):
        run = Run(program(MOVE, row), situation.with_number("i", situation.positions["i"] - 1))
        run.go()
        self.assertEqual([run.situation, run.is_faulty()], [situation, is_faulty])
        if is_faulty:
            self.assertEqual([str(run), run.is_done(), run.go_on(), run.steps], ["run at 1: fault, 1 steps", False, 0, 1])
            refusal(InvalidOperation, run.go)
            self.assertEqual([run.situation, outcome(program(MOVE, row), run.situation.with_number("i", situation.positions["i"] - 1))],
                             [situation, ("fault", 1, 1)])
        else:
            self.assertEqual(run.go(), 1)

    def test_keeps_and_writes(self):
        for i, is_faulty in ((-1, True), (0, False), (2, False), (3, True), (-LONG + 9, True), (LONG - 9, True)):
            situation = SHOWN.with_number("i", i)
            self.check(("keep", "x", cell("i")), situation, is_faulty)
            self.check(("write", "a", "i", 0, X), situation, is_faulty)
            self.check(("write", "a", "", 0, cell("i")), situation, is_faulty)
            self.check(("move", "j", I), situation, False)
        self.check(("keep", "x", ("x", 1)), SHOWN, False)
        self.check(("write", "a", "n", 0, X), SHOWN, True)
        self.check(("write", "a", "n", -1, X), SHOWN, False)
        self.check(("keep", "x", cell("", -1)), at(), True)

    def test_conditions(self):
        out, inside = ("val", "<", X, cell("n")), ("val", "<", cell(""), cell("", 1))
        for claim, is_faulty in [
            (out, True), (inside, False), (("not", out), True), (("val", "<", cell("n"), X), True), (("and", (out, NEVER)), True),
            (("and", (NEVER, out)), False), (("and", (ALWAYS, out)), True), (("or", (ALWAYS, out)), False), (("or", (NEVER, out)), True),
            (("or", (out, ALWAYS)), True), (("not", ("or", (ALWAYS, out))), False), (("and", (("or", (ALWAYS, out)), NEVER, out)), False),
            (("and", (("or", (NEVER, ("not", ("and", (NEVER, out))))), out)), True), (("or", (("and", (NEVER, out)), ("and", (ALWAYS, out)))), True),
            (("or", (("and", (NEVER, out)), ("not", NEVER), out)), False), (("pos", "<", ("n", 0), I), False), (("val", "==", X, X), False),
        ]:
            with self.subTest(claim):
                for row in (("if", claim, (), ()), ("while", claim, ())):
                    self.check(row, SHOWN, is_faulty)

    def test_a_fault_at_a_later_asking(self):
        rows = program(("while", ("not", ("val", "==", cell("i"), X)), (MOVE,)))
        self.assertEqual(outcome(rows, at(1, 2, 3, x=3)), ("done", at(1, 2, 3, i=2, x=3), 5))
        self.assertEqual(outcome(rows, at(1, 2, 3, x=4)), ("fault", 0, 6))
        self.assertEqual(outcome(rows, at(1, 2, 3, x=4), most=6), ("fault", 0, 6))
        self.assertEqual(outcome(rows, at(1, 2, 3, x=4), most=5), ("long", at(1, 2, 3, i=2, x=4), 5))
        guarded = program(("while", ("and", (LESS, ("not", ("val", "==", cell("i"), X)))), (MOVE,)))
        self.assertEqual(outcome(guarded, at(1, 2, 3, x=4)), ("done", at(1, 2, 3, i=3, x=4), 7))


class Changed(unittest.TestCase):
    def test_go_on(self):
        run = Run(FILL, ONES)
        self.assertEqual([run.go_on(most=0), run.go_on(most=3), run.trail, run.go_on(most=8), run.is_done(), run.go_on()],
                         [0, 3, (0, 1, 2), 8, True, 0])
        spin = Run(program(SPIN), ONES)
        self.assertEqual([spin.go_on(), spin.go_on(most=10000), len(spin)], [100, 10000, 10100])
        for value in (*not_integers(), -1, 10001, LONG):
            with self.subTest(repr(value)[:40]):
                self.assertEqual(refusal(InvalidNumber, run.go_on, most=value).given, value)
                self.assertEqual(refusal(InvalidNumber, outcome, FILL, ONES, most=value).given, value)
                self.assertEqual(refusal(InvalidNumber, first_break, Outline(FILL, notes=((),)), ONES, most=value).given, value)

    def test_undo(self):
        run = Run(FILL, ONES)
        known = []
        while not run.is_done():
            known.append((run.next_row, run.situation, run.trail, str(run)))
            run.go()
        for told in known[::-1]:
            self.assertEqual(run.undo(), (told[0],))
            self.assertEqual((run.next_row, run.situation, run.trail, str(run)), told)
        self.assertEqual([run.undo(many=0), run.go_on(), run.undo(many=11)], [(), 11, (1, 3, 2, 1, 3, 2, 1, 3, 2, 1, 0)])
        self.assertEqual(refusal(NothingToUndo, run.undo).many, 1)
        run.go()
        self.assertEqual(refusal(NothingToUndo, run.undo, many=2).many, 2)
        self.assertEqual(refusal(NothingToUndo, run.undo, many=LONG).many, LONG)
        for value in (*not_integers(), -1, -LONG):
            self.assertEqual(refusal(InvalidNumber, run.undo, many=value).given, value)
        self.assertEqual(run.trail, (0,))

    def test_undo_behind_a_fault(self):
        run = Run(program(MOVE, ("keep", "x", cell("i"))), at(7, i=0))
        run.go()
        self.assertEqual([run.is_faulty(), run.undo(), run.is_faulty(), run.go(), run.is_faulty()], [True, (0,), False, 0, True])

    def test_twin(self):
        run = Run(FILL, ONES)
        run.go_on(most=3)
        twin = run.twin()
        self.assertEqual(twin, run)
        twin.go()
        run.undo(many=2)
        self.assertEqual([twin.trail, run.trail, twin.situation, run.situation], [(0, 1, 2, 3), (0,), at(5, 2, 3, i=1, x=5), at(1, 2, 3, x=5)])
        self.assertEqual([twin.undo(many=4)[-1], twin.situation], [0, ONES])

    def test_equality(self):
        run, other = Run(FILL, ONES), Run(Program(FRAME, FILL_ROWS), at(1, 2, 3, i=9, x=5))
        self.assertIs(run == other, True)
        run.go()
        self.assertIs(run == other, False)
        self.assertIs(run != other, True)
        other.go()
        self.assertIs(run == other, True)
        self.assertIs(Run(FILL, SHOWN) == Run(FILL, ONES), False)
        self.assertIs(Run(program(*NUMBERED), ONES) == Run(FILL, ONES), False)
        others = [Run(FILL, SHOWN), Run(program(*NUMBERED), ONES), Run(FILL, ONES), FILL]
        for value in [*others, *not_names()]:
            with self.subTest(repr(value)[:40]):
                self.assertIs(run == value, False)
                self.assertIs(run != value, True)
        refusal(TypeError, iter, run)

    def test_many_steps(self):
        began = time.monotonic()
        long = Situation(FRAME, {"a": (0,) * 1000}, {"i": 0, "j": 0}, {"x": 5})
        kind, situation, steps = outcome(FILL, long, most=10000)
        self.assertEqual([kind, situation.rows["a"], steps], ["done", (5,) * 1000, 3002])
        run = Run(FILL, long)
        self.assertEqual([run.go_on(most=10000), len(run.undo(many=3002)), run.situation], [3002, 3002, long])
        self.assertLess(time.monotonic() - began, 10)

    def test_a_hundred_steps_unless_told(self):
        self.assertEqual(outcome(program(SPIN), ONES), ("long", ONES, 100))
        rows = program(("while", ALWAYS, (MOVE,)))
        self.assertEqual(outcome(rows, at())[1], at(i=50))
        self.assertEqual(first_break(Outline(rows, notes=((("pos", "<", I, ("", 50)),),)), at()), ("note", 0, 0, 50))
        self.assertIsNone(first_break(Outline(rows, notes=((("pos", "<", I, ("", 51)),),)), at()))
        late = program(*[MOVE] * 3, ("while", ALWAYS, (MOVE,)))
        self.assertEqual(first_break(Outline(late, notes=((("pos", "<", I, ("", 51)),),)), at()), ("note", 0, 0, 48))
        self.assertIsNone(first_break(Outline(late, notes=((("pos", "<", I, ("", 52)),),)), at()))


class Wrong(unittest.TestCase):
    def test_programs_then_situations(self):
        other = Situation(Frame((("a", "n"),), ("j", "i"), ("x",)), {"a": ()}, {"i": 0, "j": 0}, {"x": 0})
        outline = Outline(FILL, notes=((),))
        for value in [*not_names(), FILL_ROWS]:
            with self.subTest(repr(value)[:40]):
                refusal(InvalidProgram, Run, value, None)
                refusal(InvalidProgram, outcome, value, None, most=None)
                refusal(InvalidProgram, first_break, value, None, most=None)
        refusal(InvalidProgram, first_break, FILL, ONES)
        refusal(InvalidProgram, Run, outline, ONES)
        for value in [*not_names(), other]:
            if value is not SHOWN:
                with self.subTest(repr(value)[:40]):
                    refusal(InvalidSituation, Run, FILL, value)
                    refusal(InvalidSituation, outcome, FILL, value, most=None)
                    refusal(InvalidSituation, first_break, outline, value, most=None)


class Breaks(unittest.TestCase):
    def filled(self, notes=(SAME, ("pos", "<=", ("", 0), I), ("pos", "<=", I, N)), before=(), after=(LOW,)):
        return Outline(FILL, before=before, notes=(notes,), after=after)

    def test_none(self):
        self.assertIsNone(first_break(self.filled(), ONES))
        self.assertIsNone(first_break(self.filled(), ONES, most=0))
        self.assertIsNone(first_break(Outline(program(), notes=()), ONES))
        self.assertIsNone(first_break(Outline(program(SPIN), notes=((ALWAYS,),), after=(NEVER,)), ONES, most=10000))

    def test_before(self):
        self.assertEqual(first_break(self.filled(before=(ALWAYS, NEVER, NEVER)), ONES), ("before", 1))
        self.assertEqual(first_break(self.filled(before=(NEVER,)), ONES, most=0), ("before", 0))
        self.assertEqual(first_break(Outline(program(SPIN), before=(NEVER,), notes=((NEVER,),)), ONES), ("before", 0))

    def test_notes(self):
        self.assertEqual(first_break(Outline(program(SPIN), notes=((ALWAYS, NEVER),)), ONES, most=0), ("note", 0, 1, 0))
        low = ("pos", "<=", I, ("", 1))
        self.assertEqual(first_break(self.filled(notes=(low, NEVER)), ONES), ("note", 0, 1, 0))
        self.assertEqual(first_break(self.filled(notes=(ALWAYS, low)), ONES), ("note", 0, 1, 2))
        # The second asking of the condition is behind step 4, the third one behind step 7.
        self.assertIsNone(first_break(self.filled(notes=(ALWAYS, low)), ONES, most=6))
        self.assertEqual(first_break(self.filled(notes=(ALWAYS, low)), ONES, most=7), ("note", 0, 1, 2))

    def test_notes_of_inner_loops(self):
        rows = program(("move", "i", ("", 0)), ("while", ("pos", "<", I, ("", 3)), (
            ("move", "j", ("", 0)), ("while", ("pos", "<", J, I), (("move", "j", ("j", 1)),)), MOVE)))
        for claim, broken in [(("pos", "<=", J, ("", 1)), ("note", 1, 0, 5)), (("pos", "<=", I, ("", 0)), ("note", 1, 0, 1)),
                              (("pos", "<", J, ("", 0)), ("note", 1, 0, 0))]:
            self.assertEqual(first_break(Outline(rows, notes=((), (claim,))), ONES), broken)
        self.assertEqual(first_break(Outline(rows, notes=((("pos", "<=", I, ("", 1)),), ())), ONES), ("note", 0, 0, 2))
        both = Outline(rows, notes=((("pos", "<=", I, ("", 1)),), (("pos", "<=", I, ("", 1)),)))
        self.assertEqual(first_break(both, ONES), ("note", 0, 0, 2))

    def test_faults(self):
        rows = program(MOVE, ("while", ("val", "<=", cell("i"), X), (MOVE,)))
        self.assertEqual(first_break(Outline(rows, notes=((),)), at(0, 0, 0)), ("fault", 1))
        self.assertEqual(first_break(Outline(rows, notes=((),)), at(0, 0, 0), most=5), ("fault", 1))
        self.assertIsNone(first_break(Outline(rows, notes=((),)), at(0, 0, 0), most=4))
        # A note is told ahead of a fault of the condition.
        self.assertEqual(first_break(Outline(rows, notes=((("pos", "<", I, N),),)), at(0, 0, 0)), ("note", 0, 0, 2))
        self.assertEqual(first_break(Outline(program(KEEP), notes=()), at()), ("fault", 0))
        self.assertEqual(first_break(Outline(program(WRITE), before=(NEVER,), notes=()), at()), ("before", 0))

    def test_after(self):
        self.assertEqual(first_break(self.filled(after=(ALWAYS, LOW, NEVER)), ONES), ("after", 2))
        self.assertEqual(first_break(self.filled(after=(NEVER,)), ONES, most=11), ("after", 0))
        self.assertIsNone(first_break(self.filled(after=(NEVER,)), ONES, most=10))
        self.assertEqual(first_break(Outline(program(), notes=(), after=(ALWAYS, ATOM)), at(i=9)), ("after", 1))
        self.assertEqual(first_break(Outline(program(), before=(NEVER,), notes=(), after=(NEVER,)), at()), ("before", 0))

    def test_nothing_is_changed(self):
        outline = self.filled()
        first_break(outline, ONES)
        outcome(FILL, ONES)
        self.assertEqual([outline, ONES], [self.filled(), at(1, 2, 3, i=9, x=5)])
        self.assertEqual(outcome(FILL, ONES), outcome(FILL, ONES))


if __name__ == "__main__":
    unittest.main()
