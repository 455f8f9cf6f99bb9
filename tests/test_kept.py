import unittest

from cellsenough.code.pieces import pieces
from cellsenough.code.program import Outline, Program
from cellsenough.code.runs import first_break
from cellsenough.decide.follows import is_paper, paper
from cellsenough.errors import InvalidNumber, InvalidOperation, InvalidProgram, InvalidSituation, TooMany
from cellsenough.keep.notes import broken_questions, is_kept, is_kept_paper, kept_paper, reached_break
from cellsenough.solve.questions import Question
from cellsenough.world.situations import Situation
from outlines import FILLED, LOW, SAME, WEAK, X, Outlines, behind_one_another, cell, greatest, insertion, lt, refused_sizes
from samples import ATOM, FRAME, LONG, SHOWN, TOO_LONG, UPTO, not_integers, not_names, refusal
from test_pieces import NEVER, bare
from test_program import FILL
from test_questions import is_small

ALL = (is_kept, broken_questions, kept_paper)


def without_one(outline):
    """The outline without one of its notes, for each of them."""
    for loop, notes in enumerate(outline.notes):
        for at in range(len(notes)):
            yield outline.with_notes(loop, notes[:at] + notes[at + 1:])


class Kept(unittest.TestCase):
    def check(self, outline):
        """That all that is told of an outline agrees with the papers of the questions of its pieces."""
        told = [[question for _, question in piece.questions()] for piece in pieces(outline)]
        broken = tuple([(at, index) for at, questions in enumerate(told) for index, question in enumerate(questions)
                        if paper(question)[0] == "broken"])
        self.assertEqual(broken_questions(outline), broken)
        self.assertIs(is_kept(outline), broken == ())
        self.assertEqual([piece.is_right() for piece in pieces(outline)],
                         [not any(at == number for at, _ in broken) for number in range(len(told))])
        found = kept_paper(outline)
        self.assertIs(is_kept_paper(outline, found), True)
        if broken:
            self.assertEqual([found[0], len(found)], ["broken", 4])
            self.assertIn(found[1:3], broken)
            question = told[found[1]][found[2]]
            self.assertIs(question.is_broken_by(found[3]), True)
            self.assertTrue(is_small(question, found[3]))
        else:
            self.assertEqual([found[0], len(found), len(found[1])], ["kept", 2, len(told)])
            for questions, trees in zip(told, found[1]):
                self.assertEqual(len(questions), len(trees))
                for question, tree in zip(questions, trees):
                    self.assertIs(is_paper(question, ("follows", tree)), True)
        return broken == ()

    def test_by_hand(self):
        for outline in (FILLED, insertion(), greatest(), behind_one_another()):
            self.assertIs(self.check(outline), True)
        self.assertIs(self.check(WEAK), False)
        self.assertEqual(broken_questions(WEAK), ((2, 0),))
        self.assertIs(self.check(bare()), True)
        self.assertEqual([kept_paper(bare()), broken_questions(bare())], [("kept", ((),)), ()])
        self.assertIs(self.check(bare(after=(ATOM,))), False)
        self.assertIs(self.check(bare(before=(ATOM,), after=(ATOM,))), True)

    def test_without_one_note(self):
        kept = [0, 0]
        for outline in (FILLED, insertion(), greatest(), behind_one_another()):
            for fewer in without_one(outline):
                kept[self.check(fewer)] += 1
        self.assertGreater(min(kept), 4)

    def test_random(self):
        kept = [0, 0]
        for seed in range(160):
            outline = Outlines(seed).outline()
            if refused_sizes(is_kept, outline) is None:
                continue
            with self.subTest(seed):
                kept[self.check(outline)] += 1
        self.assertGreater(min(kept), 20)

    def test_runs_of_kept_outlines(self):
        done = 0
        for seed in range(400):
            maker = Outlines(seed)
            outline = maker.outline()
            if not refused_sizes(is_kept, outline):
                continue
            for _ in range(12):
                situation = maker.situation()
                if all(situation.holds(claim) for claim in outline.before):
                    done += 1
                    self.assertIsNone(first_break(outline, situation, most=60))
        self.assertGreater(done, 300)

    def test_more_before_and_fewer_after(self):
        for outline in (FILLED, insertion(), greatest()):
            changed = Outline(outline.program, before=(*outline.before, ATOM, ("not", UPTO)), notes=outline.notes)
            self.assertIs(is_kept(changed), True)

    def test_versions_with_other_names(self):
        names = {"a": "wa", "n": "wb", "i": "wc", "x": "wd"}
        program = FILL.renamed(names)
        question = Question(FRAME, (SAME, *FILLED.notes[0][1:]), LOW).renamed(names)
        outline = Outline(program, notes=(question.claims,), after=(question.goal,))
        self.assertIs(self.check(outline), True)
        self.assertEqual(pieces(outline)[2].ends["wa"], "we")


class Judged(unittest.TestCase):
    def test_papers_of_kept_outlines(self):
        word, trees = kept_paper(FILLED)
        wrong = [(word, trees, ()), (word,), (word, list(trees)), (word, trees[1:]), (word, trees[::-1]), (word, (*trees, ())),
                 ("broken", trees), (word, (trees[0], trees[1], trees[2][1:])), (word, (trees[0], trees[1], trees[2][::-1])),
                 (word, (trees[0], trees[1], list(trees[2]))), [word, trees], trees, ("Kept", trees), (True, trees),
                 (word, (trees[0], trees[1], (*trees[2][:3], trees[0][0]))), ("broken", 2, 0, SHOWN), (None, trees), ((word,), trees)]
        for value in [*wrong, *not_names()]:
            with self.subTest(repr(value)[:60]):
                self.assertIs(is_kept_paper(FILLED, value), False)
                self.assertIs(is_kept_paper(WEAK, value), False)
        self.assertIs(is_kept_paper(WEAK, (word, trees)), False)

    def test_breaks(self):
        word, piece, question, situation = kept_paper(WEAK)
        told = pieces(WEAK)
        outside = Situation(told[2].frame, {"a": (0,), "wa": (0,)}, {"i": -3, "j": 0}, {"x": 0})
        self.assertIs(is_kept_paper(WEAK, (word, 2, 0, outside)), True)
        long = Situation(told[2].frame, {"a": (7,) * 4000, "wa": (7,) * 4000}, {"i": -3, "j": -10 ** 30}, {"x": 0})
        self.assertIs(is_kept_paper(WEAK, (word, 2, 0, long)), True)
        wrong = [(word, 2, 0), (word, 2, 0, situation, None), (word, 1, 0, situation), (word, 2, 1, situation),
                 (word, 3, 0, situation), (word, -1, 0, situation), (word, 2, -1, situation), (word, 2, 2, situation),
                 (word, 2, False, situation), (word, 2, None, situation), (word, 2.0, 0, situation), (word, "2", 0, situation),
                 (word, TOO_LONG, 0, situation), (word, 2, 0, outside.for_frame(FRAME)), (word, 2, 0, None),
                 (word, 2, 0, outside.with_number("i", 0)), [word, 2, 0, situation], ("kept", 2, 0, situation)]
        for value in wrong:
            self.assertIs(is_kept_paper(WEAK, value), False)
        self.assertIs(is_kept_paper(FILLED, (word, piece, question, situation)), False)
        # True is not 1, although a question with this index is broken.
        both = bare(after=(ATOM, ATOM))
        shown = kept_paper(both)[3]
        self.assertEqual([is_kept_paper(both, ("broken", 0, at, shown)) for at in (0, 1, True, False)], [True, True, False, False])
        self.assertEqual([is_kept_paper(both, ("broken", at, 0, shown)) for at in (0, False)], [True, False])


class Limits(unittest.TestCase):
    def test_wrong_outlines(self):
        for value in (*not_names(), FILL, pieces(FILLED)[0]):
            for call in ALL:
                refusal(InvalidProgram, call, value)
            refusal(InvalidProgram, is_kept_paper, value, None)
            refusal(InvalidProgram, reached_break, value, None, most=None)

    def test_errors_of_pieces(self):
        seven = bare(*[("write", "a", "i", 0, X)] * 7)
        far = bare(*[("move", "i", ("i", LONG))] * 2)
        for outline, error in ((seven, TooMany), (far, InvalidOperation)):
            for call in ALL:
                refusal(error, call, outline)
            refusal(error, is_kept_paper, outline, None)
            self.assertIsNone(reached_break(outline, (SHOWN,)))

    def test_too_large_questions(self):
        wide = ("and", tuple([("val", "<=", cell("i", shift), X) for shift in range(1, 18)]))
        # All questions of all pieces have to be small, also behind ones that are broken.
        for outline, limit in ((bare(after=(NEVER, wide)), 16), (bare(after=(NEVER, lt(("i", 900), ("j", 0)))), 1000),
                               (bare(before=(wide,), after=(NEVER,)), 16)):
            for call in ALL:
                self.assertEqual(refusal(TooMany, call, outline).limit, limit)
        judged = bare(before=(wide,), after=(NEVER,))
        shown = Situation(FRAME, {"a": ()}, {"i": 0, "j": 0}, {"x": 0})
        self.assertIs(is_kept_paper(judged, ("broken", 0, 0, shown)), True)
        self.assertIs(is_kept_paper(judged, ("broken", 0, 0, shown.with_number("x", -1))), False)
        same = bare(before=(wide,), after=(wide,))
        tree = (("ring", ((0, 0),)),)
        self.assertIs(is_kept_paper(same, ("kept", ((tree,),))), False)


class Reached(unittest.TestCase):
    def at(self, *row, i=0):
        return Situation(FRAME, {"a": row}, {"i": i, "j": 0}, {"x": 5})

    def test_by_hand(self):
        self.assertIsNone(reached_break(FILLED, (self.at(1, 2, 3), self.at(), SHOWN)))
        wrong = FILLED.with_notes(0, (SAME, lt(("i", 0), ("", 2))))
        self.assertIs(is_kept(wrong), False)
        self.assertEqual(reached_break(wrong, (self.at(), self.at(1), self.at(1, 2, 3), self.at(1, 2))), (2, ("note", 0, 1, 2)))
        self.assertEqual(reached_break(wrong, (self.at(1, 2), self.at(1))), (0, ("note", 0, 1, 2)))
        faulty = bare(("write", "a", "i", 0, X), before=(lt(("", -1), ("i", 0)),), after=(lt(("i", 0), ("", 1)),))
        told = (self.at(1, i=-1), self.at(1), self.at(1, 1, i=1), self.at(1, i=4))
        self.assertEqual(reached_break(faulty, told), (2, ("after", 0)))
        self.assertEqual(reached_break(faulty, told[:2] + told[3:]), (2, ("fault", 0)))
        # A situation in which a claim of the beginning is false is left out.
        self.assertIsNone(reached_break(faulty, told[:2]))
        self.assertIsNone(reached_break(faulty, told[:1]))

    def test_steps(self):
        wrong = FILLED.with_notes(0, (lt(("i", 0), ("", 2)),))
        told = (self.at(1, 2, 3),)
        self.assertIsNone(reached_break(wrong, told, most=6))
        self.assertEqual(reached_break(wrong, told, most=7), (0, ("note", 0, 0, 2)))
        late = FILLED.with_notes(0, (lt(("i", 0), ("", 33)),))
        told = (self.at(*[1] * 40),)
        self.assertIsNone(reached_break(late, told, most=99))
        self.assertEqual([reached_break(late, told), reached_break(late, told, most=100)], [(0, ("note", 0, 0, 33))] * 2)

    def test_random(self):
        broken = 0
        for seed in range(300):
            maker = Outlines(seed)
            outline = maker.outline()
            told = tuple([maker.situation() for _ in range(4)])
            wanted = None
            for index, situation in enumerate(told):
                found = first_break(outline, situation, most=40)
                if wanted is None and found is not None and all(situation.holds(claim) for claim in outline.before):
                    wanted = (index, found)
            self.assertEqual(reached_break(outline, told, most=40), wanted)
            if wanted is not None and refused_sizes(is_kept, outline) is not None:
                broken += 1
                self.assertIs(is_kept(outline), False)
        self.assertGreater(broken, 60)

    def test_errors_in_order(self):
        for value in (*not_names(), (), [SHOWN], (SHOWN, None), (None,), (SHOWN,) * 1001, SHOWN,
                      (SHOWN, Situation(FRAME.renamed({"a": "b"}), {"b": ()}, {"i": 0, "j": 0}, {"x": 0}))):
            if value != (SHOWN,):
                refusal(InvalidSituation, reached_break, FILLED, value, most=None)
        self.assertIsNone(reached_break(FILLED, (SHOWN,) * 1000, most=2))
        for value in (*not_integers(), -1, 10001, LONG):
            error = refusal(InvalidNumber, reached_break, FILLED, (SHOWN,), most=value)
            self.assertEqual(error.given, value)
        for most in (0, 1, 10000):
            self.assertIsNone(reached_break(FILLED, (SHOWN,), most=most))
        with self.assertRaises(TypeError):
            reached_break(FILLED, (SHOWN,), 5)


if __name__ == "__main__":
    unittest.main()
