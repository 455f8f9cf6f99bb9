import itertools
import unittest

from cellsenough.base.frames import Frame
from cellsenough.code.pieces import pieces
from cellsenough.code.program import Outline, Program
from cellsenough.decide.follows import follows, is_paper, paper
from cellsenough.errors import InvalidClaim, InvalidOperation, InvalidProgram, TooMany
from cellsenough.keep.greatest import best_outline, choice_paper, greatest_choice, is_carried, is_choice_paper, ranks
from cellsenough.keep.notes import is_kept
from cellsenough.logic.claims import all_between
from cellsenough.world.situations import Situation
from outlines import FILLED, I, J, LOW, N, SAME, SOME, X, ZERO, Outlines, behind_one_another, cell, greatest, insertion, le
from outlines import lt, refused_sizes
from samples import ATOM, FRAME, LONG, SHOWN, TOO_LONG, UPTO, not_integers, not_names, refusal
from test_pieces import bare
from test_program import FILL
from test_questions import is_small

ALL = (greatest_choice, ranks, choice_paper, best_outline)
JUDGING = (is_carried, is_choice_paper)


def chosen(candidates, choice):
    return tuple([tuple([claims[index] for index in indices]) for claims, indices in zip(candidates, choice)])


def at_loops(program, candidates, before, choice):
    """The pieces that end at a loop, with their indices and their questions about goals."""
    told = pieces(Outline(program, before=before, notes=chosen(candidates, choice)))
    return [(number, piece, [question for kind, question in piece.questions() if kind[0] == "goal"])
            for number, piece in enumerate(told) if piece.stop >= 0]


def by_rounds(program, candidates, before):
    """The greatest choice and the ranks, by the words of the document."""
    choice = [list(range(len(claims))) for claims in candidates]
    told = [[None] * len(claims) for claims in candidates]
    for rank in itertools.count():
        dropped = set()
        for _, piece, questions in at_loops(program, candidates, before, choice):
            for index, question in zip(choice[piece.stop], questions):
                if not follows(question):
                    dropped.add((piece.stop, index))
        if not dropped:
            return tuple(map(tuple, choice)), tuple(map(tuple, told))
        for loop, index in dropped:
            told[loop][index] = rank
            choice[loop].remove(index)


def all_choices(candidates):
    parts = []
    for claims in candidates:
        indices = range(len(claims))
        parts.append([part for many in range(len(claims) + 1) for part in itertools.combinations(indices, many)])
    return list(itertools.product(*parts))


def random_candidates(seed, most):
    maker = Outlines(seed)
    outline = maker.outline()
    while not outline.notes:
        outline = maker.outline()
    candidates = tuple([tuple([maker.claim(1) for _ in range(maker.random.randint(1, most))]) for _ in outline.notes])
    return outline.program, candidates, outline.before


class Choices(unittest.TestCase):
    def check(self, program, candidates, before=()):
        choice, told = by_rounds(program, candidates, before)
        self.assertEqual(greatest_choice(program, candidates, before=before), choice)
        self.assertEqual(ranks(program, candidates, before=before), told)
        self.assertIs(is_carried(program, candidates, choice, before=before), True)
        best = best_outline(program, candidates, before=before, after=(ATOM,) if program.frame == FRAME else ())
        self.assertEqual([best.program, best.before, best.notes], [program, before, chosen(candidates, choice)])
        self.check_paper(program, candidates, before, choice, choice_paper(program, candidates, before=before))
        return choice

    def check_paper(self, program, candidates, before, choice, value):
        self.assertIs(is_choice_paper(program, candidates, value, before=before), True)
        told, drops, trees = value
        self.assertEqual(told, choice)
        left = [list(range(len(claims))) for claims in candidates]
        for loop, index, number, situation in drops:
            asked = {at: (piece, questions) for at, piece, questions in at_loops(program, candidates, before, left)}
            piece, questions = asked[number]
            self.assertEqual(piece.stop, loop)
            question = questions[left[loop].index(index)]
            self.assertIs(question.is_broken_by(situation), True)
            self.assertTrue(is_small(question, situation))
            left[loop].remove(index)
        self.assertEqual(tuple(map(tuple, left)), choice)
        asked = at_loops(program, candidates, before, choice)
        self.assertEqual(len(trees), len(asked))
        for part, (_, _, questions) in zip(trees, asked):
            self.assertEqual(len(part), len(questions))
            for tree, question in zip(part, questions):
                self.assertIs(is_paper(question, ("follows", tree)), True)

    def test_fill(self):
        self.assertEqual(self.check(FILL, SOME), ((0, 2, 3),))
        self.assertEqual(ranks(FILL, SOME), ((None, 0, None, None),))
        best = best_outline(FILL, SOME, before=(ATOM,), after=(LOW, UPTO))
        self.assertEqual(best, Outline(FILL, before=(ATOM,), notes=((SOME[0][0], *SOME[0][2:]),), after=(LOW, UPTO)))
        self.assertIs(is_kept(best_outline(FILL, SOME, after=(LOW,))), True)

    def test_no_loops_and_no_candidates(self):
        line = Program(FRAME, (("write", "a", "i", 0, X),))
        self.assertEqual([greatest_choice(line, ()), ranks(line, ()), choice_paper(line, ())], [(), (), ((), (), ())])
        self.assertIs(is_carried(line, (), ()), True)
        self.assertEqual(self.check(FILL, ((),)), ((),))
        self.assertEqual(choice_paper(FILL, ((),)), (((),), (), ((), ())))

    def test_dropped_in_later_rounds(self):
        # Each of these holds only as long as the next one does; the last one is false at the beginning.
        rows = (("while", lt(ZERO, I), (("keep", "x", ("y", 0)), ("keep", "y", ("z", 0)), ("keep", "z", ("", 1)))),)
        program = Program(Frame((), ("i",), ("x", "y", "z")), rows)
        candidates = (tuple([("val", "==", (name, 0), ("", 0)) for name in "xyz"] + [le(I, I)]),)
        before = tuple([("val", "==", (name, 0), ("", 0)) for name in "xyz"])
        self.assertEqual(self.check(program, candidates, before), ((3,),))
        self.assertEqual(ranks(program, candidates, before=before), ((2, 1, 0, None),))
        self.assertEqual(ranks(program, candidates), ((0, 0, 0, None),))
        self.assertEqual(ranks(program, (candidates[0][:2],), before=before), ((1, 0),))

    def test_outlines_with_more_notes(self):
        for outline in (FILLED, insertion(), greatest(), behind_one_another()):
            full = tuple([tuple([*range(len(notes))]) for notes in outline.notes])
            self.assertEqual(greatest_choice(outline.program, outline.notes, before=outline.before), full)
            if outline.frame == FRAME:
                more = tuple([(ATOM, *notes[:7]) for notes in outline.notes])
                self.check(outline.program, more, outline.before)

    def test_questions_about_cells_and_the_end_play_no_part(self):
        program = Program(FRAME, (("while", lt(I, N), (("write", "a", "i", 0, X), ("move", "i", ("i", 1)))), ("move", "i", ("", 7))))
        self.assertEqual(greatest_choice(program, ((le(I, N), SAME),), before=(le(I, N), SAME)), ((0, 1),))
        self.assertIs(is_kept(best_outline(program, ((le(I, N), SAME),), before=(le(I, N), SAME))), False)

    def test_random(self):
        some = 0
        for seed in range(260):
            program, candidates, before = random_candidates(seed, 3)
            if refused_sizes(lambda: greatest_choice(program, candidates, before=before)) is None:
                continue
            with self.subTest(seed):
                choice = self.check(program, candidates, before)
                some += 0 < sum(map(len, choice)) < sum(map(len, candidates))
        self.assertGreater(some, 20)

    def test_greatest_of_all_carried_choices(self):
        unions = 0
        for seed in range(120):
            program, candidates, before = random_candidates(seed, 2)
            if refused_sizes(lambda: greatest_choice(program, candidates, before=before)) is None or len(candidates) > 2:
                continue
            carried = [choice for choice in all_choices(candidates) if is_carried(program, candidates, choice, before=before)]
            greatest = greatest_choice(program, candidates, before=before)
            self.assertIn(greatest, carried)
            for choice in carried:
                self.assertTrue(all(set(part) <= set(whole) for part, whole in zip(choice, greatest)))
            for one, other in itertools.combinations(carried, 2):
                union = tuple([tuple(sorted({*part, *more})) for part, more in zip(one, other)])
                unions += 1
                self.assertIn(union, carried)
        self.assertGreater(unions, 100)

    def test_names_of_versions_change_with_the_candidates(self):
        # A candidate with the own name wa is dropped, so that the versions have other names then.
        never = ("all", ("wa",), ("and", ()), ("val", "<", cell("wa"), cell("wa")))
        later = ("all", ("wb",), ("and", ()), ("val", "<", ("", 0), cell("wb")))
        for claims in ((never, SAME, later, ATOM), (ATOM, SAME, never, later), (SAME, later, ATOM, never)):
            self.check(FILL, (claims,))
            self.check(FILL, (claims,), (SAME, UPTO))

    def test_nothing_is_changed(self):
        before = (SAME, UPTO)
        self.assertEqual([greatest_choice(FILL, SOME, before=before), choice_paper(FILL, SOME)], [
            greatest_choice(FILL, SOME, before=before), choice_paper(FILL, SOME)])
        shown = choice_paper(FILL, SOME)[1][0][3]
        shown.rows.clear()
        self.assertEqual(choice_paper(FILL, SOME)[1][0][3], shown)


class Judged(unittest.TestCase):
    def test_is_carried(self):
        for choice in all_choices(SOME):
            wanted = all(follows(question) for _, _, questions in at_loops(FILL, SOME, (), choice) for question in questions)
            self.assertIs(is_carried(FILL, SOME, choice), wanted)
        self.assertEqual([is_carried(FILL, SOME, ((0, 2),)), is_carried(FILL, SOME, ((1,),)), is_carried(FILL, SOME, ((),))],
                         [True, False, True])
        wrong = [((2, 0),), ((0, 0),), ((4,),), ((-1,),), ((False,),), ((False, 2),), ((0, True),), [(0,)], ([0],), (), ((0,), ()),
                 (0,), ((None,),), ((TOO_LONG,),), ((0, 2.0),), (("0",),), ({0: 0},), ((0, (2,)),)]
        for value in [*wrong, *not_names()]:
            if value != ((),):
                self.assertIs(is_carried(FILL, SOME, value), False, repr(value))

    def test_is_choice_paper(self):
        choice, drops, trees = choice_paper(FILL, SOME)
        loop, index, piece, situation = drops[0]
        wrong = [
            (choice, drops), (choice, drops, trees, ()), [choice, drops, trees], (choice, list(drops), trees), (choice, drops, list(trees)),
            (list(choice), drops, trees), (((0, 1, 2, 3),), (), trees), (((0, 2),), drops, trees), (((0, 1, 2),), drops, trees),
            (choice, (), trees), (choice, (*drops, *drops), trees), (choice, drops, trees[1:]), (choice, drops, trees[::-1]),
            (choice, drops, (*trees, ())), (choice, drops, (trees[0][1:], trees[1])), (choice, drops, (trees[0][::-1], trees[1])),
            (choice, ((loop, 0, piece, situation),), trees), (choice, ((1, index, piece, situation),), trees),
            (choice, ((-1, index, piece, situation),), trees), (choice, ((loop, 4, piece, situation),), trees),
            (choice, ((loop, index, 1, situation),), trees), (choice, ((loop, index, 2, situation),), trees),
            (choice, ((loop, index, 3, situation),), trees), (choice, ((loop, index, -3, situation),), trees),
            (choice, ((loop, index, piece, SHOWN),), trees), (choice, ((loop, index, piece, None),), trees),
            (choice, ((False, index, piece, situation),), trees), (choice, ((loop, True, piece, situation),), trees),
            (choice, ((loop, index, False, situation),), trees), (choice, ((loop, index, piece),), trees),
            (choice, ([loop, index, piece, situation],), trees), (choice, (None,), trees), (None, drops, trees),
        ]
        self.assertEqual([loop, index, piece], [0, 1, 0])
        for value in [*wrong, *not_names()]:
            with self.subTest(repr(value)[:60]):
                self.assertIs(is_choice_paper(FILL, SOME, value), False)
        # Another situation that breaks the question, of any size.
        far = Situation(situation.frame, {"a": ()}, {"i": -10 ** 40, "j": 0}, {"x": 10 ** 40})
        self.assertIs(is_choice_paper(FILL, SOME, (choice, ((0, 1, 0, far),), trees)), True)
        cells = Situation(situation.frame, {"a": (3,)}, {"i": 0, "j": 0}, {"x": 0})
        self.assertIs(is_choice_paper(FILL, SOME, (choice, ((0, 1, 0, cells),), trees)), False)

    def test_order_of_drops(self):
        rows = (("while", lt(ZERO, I), (("keep", "x", ("y", 0)), ("keep", "y", ("", 1)))),)
        program = Program(Frame((), ("i",), ("x", "y")), rows)
        claims = tuple([("val", "==", (name, 0), ("", 0)) for name in "xy"])
        choice, drops, trees = choice_paper(program, (claims,), before=claims)
        self.assertEqual([drop[:3] for drop in drops], [(0, 1, 2), (0, 0, 2)])
        self.assertIs(is_choice_paper(program, (claims,), (choice, drops, trees), before=claims), True)
        self.assertIs(is_choice_paper(program, (claims,), (choice, drops[::-1], trees), before=claims), False)
        self.assertIs(is_choice_paper(program, (claims,), (choice, drops, trees)), True)
        # Without the claims of the beginning, both can be dropped in each order.
        choice, drops, trees = choice_paper(program, (claims,))
        self.assertIs(is_choice_paper(program, (claims,), (choice, drops[::-1], trees)), True)

    def test_later_drops_have_fewer_facts_but_not_other_pieces(self):
        papers = choice_paper(FILL, ((ATOM, SAME),))
        self.assertIs(is_choice_paper(FILL, ((SAME, ATOM),), papers), False)
        self.assertIs(is_choice_paper(FILL, ((ATOM, SAME),), papers), True)
        self.assertIs(is_choice_paper(FILL, ((ATOM, SAME),), papers, before=(ATOM,)), False)


class Limits(unittest.TestCase):
    def calls(self, program, candidates, **more):
        """All functions with these arguments, where they can have them."""
        told = [lambda call=call: call(program, candidates, **more) for call in ALL if "after" not in more or call is best_outline]
        return told if "after" in more else [*told, *[lambda call=call: call(program, candidates, None, **more) for call in JUDGING]]

    def refused(self, error, *args, **more):
        return [refusal(error, call) for call in self.calls(*args, **more)]

    def test_errors_in_order(self):
        for value in (*not_names(), FILLED):
            self.refused(InvalidProgram, value, None, before=None)
        wrong = [(), ((), ()), [SOME[0]], (list(SOME[0]),), ((ATOM,) * 9,), ((None,),), (("pos", "<", I, ("k", 0)),), (ATOM,), SOME[0]]
        for value in (*wrong, *[value for value in not_names() if value != ((),)]):
            self.refused(InvalidClaim, FILL, value, before=None)
        for value in ([], (ATOM,) * 9, (None,), ATOM, ("and", ()), [ATOM]):
            self.refused(InvalidClaim, FILL, SOME, before=value)
            self.refused(InvalidClaim, FILL, SOME, before=(), after=value)
        for call in (*ALL, *JUDGING):
            with self.assertRaises(TypeError):
                call(FILL, SOME, (), ())

    def test_errors_of_pieces(self):
        seven = bare(*[("write", "a", "i", 0, X)] * 7).program
        self.assertEqual([error.limit for error in self.refused(TooMany, seven, ())], [6] * 6)
        self.refused(TooMany, seven, (), after=(ATOM,))
        self.refused(InvalidClaim, seven, (), after=(None,))
        far = Program(FRAME, (("move", "i", ("i", LONG)), ("while", ATOM, ())))
        self.refused(InvalidOperation, far, ((le(("i", 1), J),),))
        # The pieces are those with all candidates, also if the choice is without the one that is too long.
        refusal(InvalidOperation, is_carried, far, ((le(("i", 1), J), ATOM),), ((1,),))
        self.assertIs(is_carried(far, ((ATOM,),), ((),)), True)
        # Questions about cells play no part but for their errors.
        condition = ("and", (*[ATOM] * 41, ("val", "<", X, cell("i"))))
        self.refused(InvalidOperation, Program(FRAME, (("while", condition, ()),)), ((),))

    def test_too_large_questions(self):
        wide = ("and", tuple([("val", "<=", cell("i", shift), X) for shift in range(1, 18)]))
        claims = ((ATOM, wide),)
        for call in ALL:
            self.assertEqual(refusal(TooMany, call, FILL, claims).limit, 16)
        for choice in (((1,),), ((0, 1),)):
            self.assertEqual(refusal(TooMany, is_carried, FILL, claims, choice).limit, 16)
        self.assertIs(is_carried(FILL, claims, ((0,),)), False)
        self.assertIs(is_carried(FILL, claims, ((),)), True)
        self.assertIs(is_carried(FILL, claims, ((5,),)), False)
        self.assertIs(is_choice_paper(FILL, claims, (((0, 1),), (), ())), False)
        far = ((ATOM, lt(("i", 900), J)),)
        for call in ALL:
            self.assertEqual(refusal(TooMany, call, FILL, far).limit, 1000)
        # A program that never comes to a loop but at its beginning.
        same = Program(FRAME, (("while", ("or", ()), ()),))
        tree = (("part", 0, 0, 1), ("ring", ((0, 0),)))
        self.assertIs(is_choice_paper(same, ((wide,),), (((0,),), (), ((tree,), (tree,))), before=(wide,)), False)
        kept = (("ring", ((1, 0),)),)
        self.assertIs(is_choice_paper(same, ((wide,),), (((),), ((0, 0, 0, SHOWN),), ((), ()))), True)
        self.assertIs(is_choice_paper(same, ((wide,),), (((),), ((0, 0, 0, SHOWN),), ((kept,), ()))), False)


class Hard(unittest.TestCase):
    def test_many_candidates(self):
        outline = insertion()
        told = [all_between(FRAME, ZERO, ("i", shift), "<=", cell("k"), X) for shift in range(-2, 3)]
        candidates = ((*outline.notes[0], *told), outline.notes[1])
        choice = greatest_choice(outline.program, candidates, before=outline.before)
        self.assertEqual(choice, ((0, 1, 2), tuple(range(8))))
        value = choice_paper(outline.program, candidates, before=outline.before)
        self.assertIs(is_choice_paper(outline.program, candidates, value, before=outline.before), True)


if __name__ == "__main__":
    unittest.main()
