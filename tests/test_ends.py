import unittest

from cellsenough.base.frames import Frame
from cellsenough.code.pieces import pieces
from cellsenough.code.program import Outline, Program
from cellsenough.code.runs import outcome
from cellsenough.decide.follows import follows
from cellsenough.errors import InvalidOperation, InvalidProgram, InvalidTerm, TooMany
from cellsenough.keep.ends import does_end, end_faults
from cellsenough.keep.notes import is_kept
from cellsenough.solve.questions import Question
from outlines import FILLED, I, J, N, WEAK, X, ZERO, Outlines, behind_one_another, cell, greatest, insertion, le, lt, refused_sizes
from samples import ATOM, FRAME, LONG, TOO_LONG, not_names, refusal
from test_pieces import bare
from test_program import FILL

UPWARDS, DOWNWARDS = (I, N), (ZERO, J)


def by_hand(outline, measures):
    """What is wrong with the measures, by the words of the document."""
    program, found = outline.program, set()
    told = pieces(outline)

    def around(loop):
        at = program.loop_of(list(program.loop_rows)[loop])
        return [loop] if at is None else [loop, *around(at)]

    for loop, (low, high) in enumerate(measures):
        inside = [other for other in range(len(measures)) if loop in around(other)]
        edges = []
        for piece in told:
            def true(claim):
                return follows(Question(piece.frame, piece.facts, claim))

            def end(term):
                return term if term[0] not in piece.ends else (piece.ends[term[0]][0], piece.ends[term[0]][1] + term[1])

            if piece.start == loop and piece.answers[0] and not true(le(low, high)):
                found.add((loop, "low"))
            if piece.start in inside and piece.stop in inside:
                stays = true(le(low, end(low))) and true(le(end(high), high))
                if not stays:
                    found.add((loop, "grows"))
                if not stays or not true(("or", (lt(low, end(low)), lt(end(high), high)))):
                    edges.append((piece.start, piece.stop))
        ways = {loop}
        for _ in inside:
            ways |= {stop for start, stop in edges if start in ways}
        if any(stop == loop and start in ways for start, stop in edges):
            found.add((loop, "turns"))
    return tuple(sorted(found))


class Ends(unittest.TestCase):
    def check(self, outline, measures, wanted=None):
        found = end_faults(outline, measures)
        self.assertEqual(found, by_hand(outline, measures) if wanted is None else wanted)
        self.assertIs(does_end(outline, measures), found == ())
        return found

    def test_fill(self):
        self.check(FILLED, (UPWARDS,), ())
        self.check(FILLED, ((N, I),), ((0, "grows"), (0, "low"), (0, "turns")))
        self.check(FILLED, ((ZERO, N),), ((0, "turns"),))
        self.check(FILLED, ((("i", 1), N),), ())
        self.check(FILLED, ((("i", 2), N),), ((0, "low"),))
        self.check(FILLED, ((J, ("i", 5)),), ((0, "grows"), (0, "low"), (0, "turns")))
        # The facts of the piece, of which the condition is one, are enough.
        self.check(WEAK, (UPWARDS,), ())

    def test_no_loops(self):
        self.check(bare(("move", "i", ZERO)), (), ())
        self.check(bare(("while", ("or", ()), ())), (UPWARDS,), ())
        self.check(bare(("while", ("and", ()), ())), (UPWARDS,), ((0, "low"), (0, "turns")))

    def test_loops_in_loops_and_behind_one_another(self):
        for outline, measures in ((insertion(), (UPWARDS, DOWNWARDS)), (greatest(), (UPWARDS,)),
                                  (behind_one_another(), (UPWARDS, UPWARDS))):
            self.check(outline, measures)
            self.assertEqual(end_faults(outline, measures), ())
        # The measure of the outer loop falls only behind the inner one; the inner one's grows outside of it, which is no matter.
        self.check(insertion(), (UPWARDS, UPWARDS), ((1, "turns"),))
        self.check(insertion(), (DOWNWARDS, DOWNWARDS), ((0, "grows"), (0, "low"), (0, "turns")))

    def test_a_measure_that_falls_on_one_way_only(self):
        rows = (("while", lt(I, N), (("if", ATOM, (("move", "i", ("i", 1)),), ()),)),)
        self.check(bare(*rows), (UPWARDS,), ((0, "turns"),))
        rows = (("while", lt(I, N), (("if", ATOM, (("move", "i", ("i", 1)),), (("move", "j", ("j", 1)), ("move", "i", ("i", 2)))),)),)
        self.check(bare(*rows), (UPWARDS,), ())
        rows = (("while", lt(I, J), (("if", ATOM, (("move", "i", ("i", 1)),), (("move", "j", ("j", -1)),)),)),)
        self.check(bare(*rows), ((I, J),), ())

    def test_ways_through_inner_loops(self):
        inner = ("while", lt(J, N), (("move", "j", ("j", 1)),))
        step = ("move", "i", ("i", 1))
        # It is enough that the measure falls ahead of the inner loop, in it, or behind it, on each way around.
        for body in ((step, inner), (inner, step)):
            self.check(bare(("while", lt(I, N), body)), (UPWARDS, (J, N)), ())
        self.check(bare(("while", lt(I, N), (inner,))), (UPWARDS, (J, N)), ((0, "turns"),))
        skipped = ("while", lt(J, N), (("move", "j", ("j", 1)), step))
        self.check(bare(("while", lt(I, N), (skipped,)), notes=((), ())), (UPWARDS, (J, N)), ((0, "turns"),))
        # In the inner loop the measure of the outer one has to stay.
        back = ("while", lt(J, N), (("move", "j", ("j", 1)), ("move", "i", ("i", -1))))
        self.check(bare(("while", lt(I, N), (back, ("move", "i", N)))), (UPWARDS, (J, N)), ((0, "grows"), (0, "turns")))
        # Two inner loops, of which one turns without the other one.
        rows = ("while", lt(I, N), (("if", ATOM, (inner,), (inner, step)),))
        self.check(bare(rows), (UPWARDS, (J, N), (J, N)))

    def test_random(self):
        counted = {"low": 0, "grows": 0, "turns": 0, None: 0}
        for seed in range(600):
            maker = Outlines(seed)
            outline = maker.outline()
            if outline.notes:
                measures = tuple([maker.random.choice((UPWARDS, (maker.place(), maker.place()))) for _ in outline.notes])
                if refused_sizes(end_faults, outline, measures) is None:
                    continue
                with self.subTest(seed):
                    found = self.check(outline, measures)
                for word in {word for _, word in found} or {None}:
                    counted[word] += 1
        self.assertGreater(min(counted.values()), 10)

    def test_runs_of_kept_outlines_that_end(self):
        done = 0
        for outline, measures in ((FILLED, (UPWARDS,)), (insertion(), (UPWARDS, DOWNWARDS)), (greatest(), (UPWARDS,))):
            self.assertEqual([is_kept(outline), does_end(outline, measures)], [True, True])
            maker = Outlines(3)
            for _ in range(40):
                situation = maker.situation().for_frame(FRAME)
                if all(situation.holds(claim) for claim in outline.before):
                    done += 1
                    self.assertEqual(outcome(outline.program, situation, most=300)[0], "done")
        self.assertGreater(done, 60)


class Limits(unittest.TestCase):
    def refused(self, error, *args):
        return [refusal(error, call, *args) for call in (does_end, end_faults)]

    def test_errors_in_order(self):
        for value in (*not_names(), FILL):
            self.refused(InvalidProgram, value, None)
        wrong = [(), (UPWARDS, UPWARDS), [UPWARDS], UPWARDS, (list(UPWARDS),), ((I,),), ((I, N, N),), ((I, X),), ((X, N),), ((I, ("k", 0)),),
                 ((I, cell("i")),), ((I, ("n", TOO_LONG)),), ((("i", True), N),), ((None, None),), (("i", "n"),)]
        for value in (*wrong, *not_names()):
            self.refused(InvalidTerm, FILLED, value)
        self.refused(InvalidTerm, bare(), (UPWARDS,))
        seven = bare(*[("write", "a", "i", 0, X)] * 7)
        self.refused(InvalidTerm, seven, None)
        self.assertEqual([error.limit for error in self.refused(TooMany, seven, ())], [6, 6])

    def test_too_large_questions(self):
        wide = ("and", tuple([("val", "<=", cell("i", shift), X) for shift in range(1, 18)]))
        self.assertEqual([error.limit for error in self.refused(TooMany, FILLED.with_notes(0, (wide,)), (UPWARDS,))], [16, 16])
        self.assertEqual([error.limit for error in self.refused(TooMany, FILLED, ((("i", -900), N),))], [1000, 1000])
        # A position that is far away at the end of a piece only.
        far = bare(("while", lt(I, N), (("move", "i", ("i", 900)),)))
        self.assertEqual([error.limit for error in self.refused(TooMany, far, (UPWARDS,))], [1000, 1000])
        self.assertEqual(end_faults(far, ((J, J),)), ((0, "turns"),))
        # Pieces that play no part for a measure are not asked.
        outside = bare(("move", "i", ("i", 900)), ("while", lt(J, N), (("move", "j", ("j", 1)),)), after=(wide,))
        self.assertEqual(end_faults(outside, ((J, N),)), ())
        # Also questions whose answers would not be needed have to be small.
        one = bare(("while", ("and", ()), (("move", "i", ("i", 400)),)))
        self.assertEqual([error.limit for error in self.refused(TooMany, one, ((N, I),))], [1000, 1000])

    def test_numbers_that_are_too_long(self):
        outline = bare(("while", lt(J, N), (("move", "i", ("i", LONG)), ("move", "j", ("j", 1)))))
        self.refused(InvalidOperation, outline, ((("i", 1), ("i", 1)),))
        self.assertEqual(end_faults(outline, ((J, N),)), ())
        self.assertEqual([error.limit for error in self.refused(TooMany, outline, (UPWARDS,))], [1000, 1000])
        # What is too large is told ahead of what is too long.
        self.assertEqual([error.limit for error in self.refused(TooMany, outline, ((("i", 1), ("n", 999)),))], [1000, 1000])

    def test_a_frame_without_arrays(self):
        frame = Frame((), ("i",), ())
        outline = Outline(Program(frame, (("while", lt(I, ("", 3)), (("move", "i", ("i", 1)),)),)), notes=((),))
        self.assertEqual([does_end(outline, ((I, ("", 3)),)), does_end(outline, ((I, ("", 2)),))], [True, True])
        self.assertEqual(end_faults(outline, ((I, ("", 1)),)), ((0, "low"),))


if __name__ == "__main__":
    unittest.main()
