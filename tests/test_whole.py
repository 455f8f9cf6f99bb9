"""What holds over all modules: nothing is changed or shared, equal calls are answered alike, every value is judged."""

import copy
import os
import unittest

from cellsenough.base.frames import Frame, is_name
from cellsenough.code.pieces import pieces
from cellsenough.code.program import Program, is_rows
from cellsenough.code.runs import Run, first_break, outcome
from cellsenough.decide.compare import core_paper, implications, is_core_paper, parting, strongest
from cellsenough.decide.follows import Asker, breaking, follows, is_paper, paper
from cellsenough.desk.desk import Desk
from cellsenough.keep.changes import do_work_alike, parting_rows, unrolled
from cellsenough.keep.ends import does_end, end_faults
from cellsenough.keep.greatest import best_outline, choice_paper, greatest_choice, is_carried, is_choice_paper, ranks
from cellsenough.keep.notes import broken_questions, is_kept, is_kept_paper, kept_paper, reached_break
from cellsenough.logic.claims import is_body, is_claim, is_guard, renamed_claim, replaced
from cellsenough.solve.questions import Question
from cellsenough.solve.rings import System, fitting, is_fitting, is_ring
from cellsenough.solve.trees import Closing, is_tree
from cellsenough.text.shell import Shell
from cellsenough.text.texts import read_claim, read_rows, write_claim, write_rows
from cellsenough.world.situations import Situation
from outlines import FILLED, I, LOW, N, SOME, UP, WEAK, insertion
from samples import FRAME, SHOWN, UPTO, not_names
from test_changes import TWO
from test_desk import told
from test_program import FILL
from test_trees import BROKEN, NEXT

DESK = {"up": UP, "low": LOW}


def objects():
    """An object of each class, made anew."""
    asker, system, closing, shell = Asker(FRAME), System(), Closing(NEXT), Shell(FRAME)
    asker.tell(UPTO)
    system.add("i", "j", 3)
    closing.new(3, "q")
    shell("enter a x <= 3")
    return [Frame((("a", "n"),), ("i", "j"), ("x",)), Situation(FRAME, SHOWN.rows, SHOWN.positions, SHOWN.amounts), system,
            Question(FRAME, NEXT.claims, NEXT.goal), closing, asker, Program(FRAME, FILL.rows), WEAK.with_notes(0, (UPTO,)),
            Run(FILL, SHOWN), pieces(FILLED)[2], told(DESK, (UPTO,)), shell]


class Objects(unittest.TestCase):
    def test_iteration(self):
        for thing in objects():
            if isinstance(thing, (Program, Desk)):
                self.assertEqual(list(thing), list(thing))
                self.assertEqual(len(list(thing)), len(thing))
                continue
            for walk in (iter, list, tuple, sorted, lambda value: [*value], lambda value: dict.fromkeys(value)):
                with self.assertRaises(TypeError):
                    walk(thing)

    def test_equality(self):
        for at, thing in enumerate(objects()):
            for index, other in enumerate(objects()):
                wanted = at == index and not isinstance(thing, Shell)
                self.assertEqual([thing == other, thing != other, other == thing], [wanted, not wanted, wanted])
            self.assertEqual([thing == thing, thing != thing], [True, False])
            for value in not_names():
                if not isinstance(value, (Frame, Situation)):
                    self.assertEqual([thing == value, value == thing, thing != value], [False, False, True])

    def test_texts_are_the_same_again(self):
        self.assertEqual([str(thing) for thing in objects()], [str(thing) for thing in objects()])
        self.assertEqual([len(thing) for thing in objects() if hasattr(thing, "__len__")],
                         [len(thing) for thing in objects() if hasattr(thing, "__len__")])


def calls():
    """Calls of functions of all modules, each with arguments that could be changed or shared."""
    desk = told(DESK, (UPTO,))
    return [
        (FRAME.renamed, {"a": "b", "x": "y"}), (renamed_claim, FRAME, UPTO, {"a": "b", "i": "k"}), (replaced, FRAME, UPTO, {"i": ("j", 1)}),
        (Situation, FRAME, {"a": (1, 2)}, {"i": 1, "j": 2}, {"x": 3}), (NEXT.renamed, {"a": "b"}), (FILL.renamed, {"a": "b"}), (follows, NEXT), (breaking, BROKEN),
        (paper, NEXT), (paper, BROKEN), (fitting, (("i", "j", -1),)), (implications, FRAME, (UP, LOW)), (strongest, FRAME, (UP, LOW)), (parting, FRAME, UP, LOW),
        (core_paper, Question(FRAME, (LOW, UP), LOW)), (outcome, FILL, SHOWN), (first_break, FILLED, SHOWN), (pieces, FILLED), (is_kept, FILLED),
        (broken_questions, WEAK), (kept_paper, FILLED), (kept_paper, WEAK), (reached_break, WEAK, (SHOWN, SHOWN)), (greatest_choice, FILL, SOME), (ranks, FILL, SOME),
        (choice_paper, FILL, SOME), (best_outline, FILL, SOME), (does_end, FILLED, ((I, N),)), (end_faults, FILLED, ((N, I),)), (do_work_alike, FRAME, TWO, TWO[::-1]),
        (parting_rows, FRAME, TWO, TWO[::-1]), (unrolled, FILLED, 0), (desk.paper, "low", "up"), (desk.paper, "up", "low"), (write_claim, FRAME, UP), (write_rows, FILL),
        (read_claim, FRAME, write_claim(FRAME, UP)), (read_rows, FRAME, write_rows(FILL)), (Shell(FRAME), "suppose x <= 3"), (Desk(FRAME).enter, "a", UP),
        (pieces(FILLED)[2].carried, SHOWN), (pieces(FILLED)[2].lifted, SHOWN), (kept_paper, insertion()),
    ]


class Calls(unittest.TestCase):
    def test_equal_calls_give_equal_results(self):
        for (call, *args), (same, *again) in zip(calls(), calls()):
            with self.subTest(str(call)):
                self.assertEqual(call(*args), same(*again))

    def test_nothing_that_is_passed_is_changed(self):
        for call, *args in calls():
            before = copy.deepcopy(args)
            call(*args)
            self.assertEqual(args, before)

    def test_what_was_passed_can_be_changed(self):
        rows, positions, values = {"a": (1, 2)}, {"i": 1, "j": 2}, {"x": 3}
        situation = Situation(FRAME, rows, positions, values)
        for table in (rows, positions, values, situation.rows, situation.positions, situation.amounts, situation.lengths):
            table.clear()
        self.assertEqual(str(situation), "a=1 2 | i=1 j=2 | x=3")
        piece, desk = pieces(FILLED)[2], told(DESK)
        piece.ends["a"] = "b"
        desk.claims["up"] = LOW
        self.assertEqual([piece.ends["a"], desk["up"]], ["wa", UP])

    def test_returned_dicts_have_ascending_keys(self):
        wide = Frame((("c", "z"), ("a", "y")), ("q", "b"), ("x", "d"))
        situation = Situation(wide, {"c": (1,), "a": ()}, {"q": 0, "b": 1}, {"x": 2, "d": 3})
        desk = told({"c": UP, "a": LOW, "b": UPTO})
        piece = pieces(best_outline(Program(wide, (("write", "c", "q", 0, ("x", 0)),)), ()))[0]
        for table in (situation.rows, situation.positions, situation.amounts, situation.lengths, desk.claims, piece.ends):
            self.assertEqual(list(table), sorted(table))

    def test_every_value_is_judged(self):
        judging = [
            is_name, FRAME.is_fresh, FRAME.is_position_term, FRAME.is_value_term, lambda value: is_claim(FRAME, value), lambda value: is_guard(FRAME, ("k",), value),
            lambda value: is_body(FRAME, ("k",), value), lambda value: is_fitting((), value), lambda value: is_ring((), value), NEXT.is_broken_by,
            lambda value: is_tree(NEXT, value), lambda value: is_paper(NEXT, value), lambda value: is_core_paper(NEXT, value), lambda value: is_rows(FRAME, value),
            lambda value: is_kept_paper(FILLED, value), lambda value: is_carried(FILL, SOME, value), lambda value: is_choice_paper(FILL, SOME, value),
            lambda value: value in FRAME, lambda value: value in told(DESK), lambda value: value in Asker(FRAME)]
        deep = (not_names(), tuple(not_names()), {1: not_names()}, *objects(), *[[thing] for thing in objects()], *[(thing, thing) for thing in objects()])
        for value in (*deep, *not_names(), *objects()):
            for judge in judging:
                self.assertIn(judge(value), (True, False))
                self.assertIsInstance(judge(value), bool)

    def test_the_readme(self):
        path = os.path.join(os.path.dirname(os.path.dirname(os.path.abspath(__file__))), "README.md")
        with open(path, encoding="utf-8") as file:
            code = file.read().split("```python\n")[1].split("```")[0]
        known = {}
        for row in code.split("\n"):
            parts = row.split("  # ")
            if len(parts) == 1 or not parts[0].strip():
                exec(row, known)
                continue
            found = eval(parts[0], known)
            wanted = parts[1].split(": ")[0].strip()
            if wanted != "a situation of few cells that breaks it":
                self.assertEqual(found, eval(wanted, known), row)


if __name__ == "__main__":
    unittest.main()
