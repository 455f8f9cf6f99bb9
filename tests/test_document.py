"""All examples of the document for what has landed."""

import unittest

from cellsenough.base.frames import Frame, is_name
from cellsenough.code.pieces import pieces
from cellsenough.code.program import Outline, Program, is_rows
from cellsenough.code.runs import Run, first_break, outcome
from cellsenough.decide.compare import core, implications, needless as needless_claims, parting, thinned, weakest
from cellsenough.decide.follows import Asker, breaking, follows, paper
from cellsenough.desk.desk import Desk
from cellsenough.keep.changes import do_commute, unrolled
from cellsenough.keep.ends import does_end, end_faults
from cellsenough.keep.greatest import best_outline, greatest_choice, is_carried, ranks
from cellsenough.keep.notes import broken_questions, is_kept, kept_paper
from cellsenough.logic.claims import (
    all_between, claim_depth, in_order, is_claim, names_of, plain_claim, replaced, used_at)
from cellsenough.solve.questions import Question
from cellsenough.solve.rings import differences_of, is_ring, needless, ring, tightest
from cellsenough.solve.trees import Closing
from cellsenough.text.shell import Shell
from cellsenough.text.texts import read_claim, write_claim, write_rows
from cellsenough.world.listing import count_situations, count_with, first_with, situations
from cellsenough.world.situations import Situation

FRAME = Frame((("a", "n"),), ("i", "j"), ("x",))
UPTO = ("all", ("k",), ("and", (("pos", "<=", ("", 0), ("k", 0)), ("pos", "<=", ("k", 0), ("i", 0)))), ("val", "<=", ("a", "k", 0, 0), ("x", 0)))

SHOWN = Situation(FRAME, {"a": (4, 0, 7)}, {"i": 1, "j": 2}, {"x": 5})
NEXT = Question(FRAME, (UPTO, ("val", "<=", ("a", "i", 1, 0), ("x", 0))), replaced(FRAME, UPTO, {"i": ("i", 1)}))
BROKEN = Question(FRAME, (UPTO,), replaced(FRAME, UPTO, {"i": ("i", 1)}))
UP = in_order(FRAME, "a", ("", 0), ("n", -1))
LOW = all_between(FRAME, ("", 0), ("n", -1), "<=", ("a", "", 0, 0), ("a", "k", 0, 0))
FILL = Program(FRAME, (("move", "i", ("", 0)), ("while", ("pos", "<", ("i", 0), ("n", 0)), (("write", "a", "i", 0, ("x", 0)), ("move", "i", ("i", 1))))))
SAME = all_between(FRAME, ("", 0), ("i", -1), "==", ("a", "k", 0, 0), ("x", 0))
FILLED = Outline(FILL, notes=((SAME, ("pos", "<=", ("", 0), ("i", 0)), ("pos", "<=", ("i", 0), ("n", 0))),), after=(LOW,))


class Examples(unittest.TestCase):
    def test_outside_of_an_array(self):
        claim = ("all", ("k",), ("and", ()), ("val", "<=", ("a", "k", 0, 0), ("x", 0)))
        for x in (-2, -1, 0, 1):
            situation = Situation(FRAME, {"a": (-3,)}, {"i": 0, "j": 0}, {"x": x})
            self.assertIs(situation.holds(claim), x >= 0)

    def test_frames(self):
        told = [FRAME.lengths, FRAME.kind_of("j"), FRAME.is_value_term(("a", "i", 2, -1)), FRAME.is_position_term(("x", 0)), FRAME.shifted(("a", "i", 2, -1), 3), str(FRAME), len(FRAME)]
        self.assertEqual(told, [('n',), 'position', True, False, ('a', 'i', 2, 2), 'a:n | i j | x', 5])
        self.assertEqual(str(Frame((("a", "n"), ("b", "n")), ("i", "j"), ("x",))), "a:n b:n | i j | x")
        self.assertIs(is_name("abcdefgh"), True)

    def test_claims(self):
        told = [is_claim(FRAME, UPTO), names_of(FRAME, UPTO), claim_depth(FRAME, UPTO), UPTO == all_between(FRAME, ("", 0), ("i", 0), "<=", ("a", "k", 0, 0), ("x", 0))]
        self.assertEqual(told, [True, ('a', 'i', 'x'), 3, True])
        told = plain_claim(FRAME, ("and", (("pos", "==", ("i", 0), ("j", 1)), ("val", "<", ("x", 0), ("", 3)))), is_true=False)
        self.assertEqual(told, ('or', (('or', (('pos', '<', ('i', 0), ('j', 1)), ('pos', '<', ('j', 1), ('i', 0)))), ('val', '<=', ('', 3), ('x', 0)))))
        self.assertEqual(used_at(FRAME, UPTO, (("j", -1),))[1][1], ('val', '<=', ('a', 'j', -1, 0), ('x', 0)))

    def test_replaced(self):
        frame = Frame((("a", "n"),), ("x", "y"), ("v",))
        terms = {"x": ("y", 3), "v": ("a", "y", 1, 3)}
        self.assertEqual(replaced(frame, ("pos", "<", ("x", 2), ("y", 0)), terms), ("pos", "<", ("y", 5), ("y", 0)))
        self.assertEqual(replaced(frame, ("val", "<", ("a", "x", 2, 9), ("v", 2)), terms),
                         ("val", "<", ("a", "y", 5, 9), ("a", "y", 1, 5)))

    def test_situations(self):
        SHOWN = Situation(FRAME, {"a": (4, 0, 7)}, {"i": 1, "j": 2}, {"x": 5})
        told = [SHOWN.holds(UPTO), SHOWN.with_number("i", 2).failure(UPTO), SHOWN.value_at(("a", "j", 1, 3)), SHOWN.lengths, str(SHOWN), SHOWN.holds(("all", ("k",), ("and", ()), ("val", "<", ("a", "k", 0, 0), ("", 0))))]
        self.assertEqual(told, [True, (2,), 3, {'n': 3}, 'a=4 0 7 | i=1 j=2 | x=5', False])

    def test_listing(self):
        told = [count_situations(FRAME, 2, 0, 1), count_with(FRAME, (UPTO,), 1, 0, 1), str(first_with(FRAME, (UPTO, ("val", "<", ("x", 0), ("a", "j", 0, 0))), 2, 0, 1))]
        self.assertEqual(told, [224, 48, 'a=1 | i=-1 j=0 | x=0'])
        told = [str(situation) for situation in situations(Frame((("b", "m"),), (), ()), 2, 0, 1)]
        self.assertEqual(told, ['b=- | - | -', 'b=0 | - | -', 'b=1 | - | -', 'b=0 0 | - | -', 'b=0 1 | - | -', 'b=1 0 | - | -', 'b=1 1 | - | -'])

    def test_differences(self):
        CHAIN = (("i", "", 4), ("j", "i", -2), ("", "j", 1))
        told = [tightest(CHAIN, "j", ""), tightest(CHAIN, "", "i"), ring(CHAIN), is_ring(CHAIN + (("i", "j", 1),), (3, 1)), needless(CHAIN)]
        self.assertEqual(told, [2, -1, None, True, ()])
        told = [differences_of(FRAME, ("pos", "<", ("i", 1), ("n", -1))), differences_of(FRAME, ("not", ("val", "<=", ("a", "i", 2, 1), ("x", 0))))]
        self.assertEqual(told, [(('i', 'n', -3),), (('x', ('a', 'i', 2), 0),)])

    def test_questions(self):
        told = [NEXT.members, NEXT.fresh, NEXT.few, len(NEXT.facts), str(NEXT)]
        self.assertEqual(told, [(('', -1), ('', 0), ('*1', 0), ('i', 0), ('i', 1), ('n', 0)), ('*1',), 12, 4, 'question of 2 given, 6 members, few 12'])
        told = [BROKEN.is_broken_by(SHOWN), BROKEN.new_numbers(SHOWN), str(BROKEN.laid(SHOWN))]
        self.assertEqual(told, [True, (2,), 'a=4 0 7 | i=1 j=2 | x=5'])

    def test_trees(self):
        closing = Closing(NEXT)
        told = [closing.new(3, "q"), closing.part(4, 0), closing.part(4, 1), closing.apart(("q", 0), ("i", 1)), closing.use(1, ("q", 0))]
        self.assertEqual(told, [0, 1, 2, 3, 4])
        told = [closing.cases(9), closing.cases(10), closing.ring((11, 0), (6, 0))]
        self.assertEqual(told, [7, 8, 10])
        told = [closing.facts[11], closing.open_nodes, len(closing), str(closing)]
        self.assertEqual(told, [('not', ('pos', '<=', ('q', 0), ('i', 0))), (5, 6, 9, 11), 8, 'closing with 8 nodes, 4 open'])

    def test_what_follows(self):
        told = [follows(NEXT), follows(BROKEN), breaking(NEXT), BROKEN.is_broken_by(breaking(BROKEN)), paper(NEXT)[0]]
        self.assertEqual(told, [True, False, None, True, 'follows'])
        asker = Asker(FRAME)
        told = [asker.tell(UPTO), asker.ask(("val", "<=", ("a", "i", 0, 0), ("x", 0))), asker.tell(("pos", "<=", ("", 0), ("i", 0))), asker.ask(("val", "<=", ("a", "i", 0, 0), ("x", 0))), str(asker)]
        self.assertEqual(told, [True, 'open', True, 'yes', 'asker with 2 claims'])

    def test_claims_beside_each_other(self):
        told = [implications(FRAME, (UP, LOW)), weakest(FRAME, (UP, LOW)), needless_claims(FRAME, (UP, LOW)), thinned(FRAME, (LOW, UP, LOW))]
        self.assertEqual(told, [((0, 1),), ((1,),), (1,), (1,)])
        self.assertEqual([core(Question(FRAME, (LOW, UP), LOW)), parting(FRAME, UP, LOW, (UP,))], [(1,), None])

    def test_programs_and_runs(self):
        told = [str(FILL), FILL.changed, FILL.row(3), FILL.loop_of(2), FILL.conditions, len(FILL + FILL)]
        self.assertEqual(told, ['program of 4 rows, 1 loops', ('a', 'i'), ('move', 'i', ('i', 1)), 0, (('pos', '<', ('i', 0), ('n', 0)),), 8])
        told = [str(FILLED), FILLED.with_notes(0, ()).notes, is_rows(FRAME, (("move", "x", ("", 0)),))]
        self.assertEqual(told, ['outline of 4 rows, 4 claims', ((),), False])
        ONES = Situation(FRAME, {"a": (1, 2, 3)}, {"i": 9, "j": 0}, {"x": 5})
        run = Run(FILL, ONES)
        told = [run.go(), run.go(), run.go(), run.situation.cell("a", 0), run.trail, str(run)]
        self.assertEqual(told, [0, 1, 2, 5, (0, 1, 2), 'run at 3: 3 steps'])
        told = [run.go_on(), run.is_done(), outcome(FILL, ONES)[2], first_break(FILLED, ONES), run.undo(many=11)[-1], run.next_row]
        self.assertEqual(told, [8, True, 11, None, 0, 0])

    def test_pieces(self):
        self.assertEqual([str(piece) for piece in pieces(FILLED)],
                         ['piece from start to 0: 1 rows', 'piece from 0 to end: 1 rows', 'piece from 0 to 0: 3 rows'])
        TURN = pieces(FILLED)[2]
        told = [TURN.ends, TURN.answers, TURN.trail, [kind for kind, question in TURN.questions()], TURN.is_right()]
        self.assertEqual(told, [{'a': 'wa', 'i': ('i', 1), 'j': ('j', 0), 'x': ('x', 0)}, (True,), (1, 2, 3), [('inside', 2), ('goal', 0), ('goal', 1), ('goal', 2)], True])

    def test_kept_notes(self):
        WEAK = FILLED.with_notes(0, (SAME,))
        told = [is_kept(FILLED), is_kept(WEAK), broken_questions(WEAK), kept_paper(WEAK)[:3]]
        self.assertEqual(told, [True, False, ((2, 0),), ('broken', 2, 0)])

    def test_greatest_kept_notes(self):
        SOME = ((SAME, ("pos", "<", ("i", 0), ("n", 0)), ("pos", "<=", ("", 0), ("i", 0)), ("pos", "<=", ("i", 0), ("n", 0))),)
        told = [greatest_choice(FILL, SOME), ranks(FILL, SOME), is_carried(FILL, SOME, ((0, 2),)), is_carried(FILL, SOME, ((1,),))]
        self.assertEqual(told, [((0, 2, 3),), ((None, 0, None, None),), True, False])
        self.assertEqual(is_kept(best_outline(FILL, SOME, after=(LOW,))), True)

    def test_ends_and_changes(self):
        told = [does_end(FILLED, ((("i", 0), ("n", 0)),)), end_faults(FILLED, ((("n", 0), ("i", 0)),))]
        self.assertEqual(told, [True, ((0, 'grows'), (0, 'low'), (0, 'turns'))])
        TWO = (("write", "a", "i", 0, ("x", 0)), ("write", "a", "j", 0, ("x", 1)))
        told = [do_commute(FRAME, TWO[0], TWO[1]), do_commute(FRAME, TWO[0], TWO[1], (("pos", "<", ("i", 0), ("j", 0)),)), len(unrolled(FILLED, 0).program)]
        self.assertEqual(told, [False, True, 7])

    def test_desks_texts_and_the_shell(self):
        desk = Desk(FRAME)
        told = [desk.enter("low", LOW), desk.enter("up", UP), desk.pin(("follows", "up", "low")), desk.follows("low", "up"), str(desk)]
        self.assertEqual(told, [(), (('low', 'up', None, False), ('up', 'low', None, True)), (), False, 'desk of 2 claims, 0 facts, 1 pins'])
        told = [write_claim(FRAME, LOW), read_claim(FRAME, write_claim(FRAME, UP)) == UP, write_rows(FILL)]
        self.assertEqual(told, ['all k (and([0 <= k], [k <= n-1]) -> a[0] <= a[k])', True, 'i = 0; while [i < n] { a[i] = x; i = i+1 }'])
        shell = Shell(FRAME)
        told = [shell("enter one x <= 3"), shell("enter two x <= 4"), shell("suppose [i < j]"), shell("follows one two"), shell("break one two"), shell("drop 5"), len(shell)]
        self.assertEqual(told, ['none', 'one two - yes, two one - no', 'none', 'yes', 'none', 'no', 5])

    def test_texts_of_the_document(self):
        """The texts that are told as like ones."""
        frame = Frame((("a", "n"),), ("i", "j"), ("x",))
        for text in ("[i <= j+1]", "a[i] < x", "a[0]+2 == a[i+1]", "or()", "not(x < 7)", "and(x < -1, [i-2 <= 7])", "all k, l (and() -> a[k] <= a[l])"):
            self.assertEqual(write_claim(frame, read_claim(frame, text)), text)


if __name__ == "__main__":
    unittest.main()
