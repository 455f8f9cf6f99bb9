import unittest

from cellsenough.base.frames import Frame
from cellsenough.decide.compare import (
    are_alike, claim_classes, core, core_paper, implications, is_core_paper, needless, parting, strongest, thinned, weakest)
from cellsenough.decide.follows import follows
from cellsenough.errors import InvalidClaim, InvalidFrame, InvalidOperation, InvalidQuestion, TooMany
from cellsenough.logic.claims import all_between, in_order
from cellsenough.solve.questions import Question
from cellsenough.solve.trees import is_tree
from samples import ATOM, BODY, FRAME, GUARD, SHOWN, UPTO, depth_by_nots, not_names, refusal
from test_asker import reading
from test_questions import is_small, random_question
from test_truth import PAIR, Maker

UP = in_order(FRAME, "a", ("", 0), ("n", -1))
LOW = all_between(FRAME, ("", 0), ("n", -1), "<=", ("a", "", 0, 0), ("a", "k", 0, 0))
NEVER, ALWAYS = ("or", ()), ("and", ())


def below(number):
    return ("val", "<=", ("x", 0), ("", number))


def far(number):
    return ("pos", "<=", ("i", number), ("j", 0))


LISTS = [implications, claim_classes, strongest, weakest, needless, thinned]


class Alike(unittest.TestCase):
    def check(self, one, other, given, answer):
        told = parting(FRAME, one, other, given)
        self.assertIs(are_alike(FRAME, one, other, given), answer)
        self.assertIs(are_alike(FRAME, other, one, given), answer)
        self.assertIs(told is None, answer)
        if told is not None:
            first, second = Question(FRAME, (*given, one), other), Question(FRAME, (*given, other), one)
            broken = [question for question in (first, second) if question.is_broken_by(told)]
            self.assertEqual(len(broken), 1)
            self.assertTrue(is_small(broken[0], told))
            self.assertNotEqual(told.holds(one), told.holds(other))
            self.assertTrue(all(told.holds(claim) for claim in given))

    def test_by_hand(self):
        for one, other, given, answer in [
            (UP, UP, (), True), (UP, LOW, (), False), (UP, LOW, (UP,), True), (UP, LOW, (("not", LOW),), True),
            (below(3), ("val", "<", ("x", 0), ("", 4)), (), True), (below(3), below(4), (), False), (below(3), below(4), (below(2),), True),
            (ATOM, ("not", ATOM), (), False), (ATOM, ("not", ATOM), (NEVER,), True), (ALWAYS, ("pos", "<=", ("", 0), ("n", 0)), (), True),
        ]:
            with self.subTest(one=one, other=other, given=given):
                self.check(one, other, given, answer)
        self.assertIs(are_alike(FRAME, UP, LOW), False)

    def test_errors_in_order(self):
        for call in (are_alike, parting):
            for value in [*not_names(), GUARD, BODY, depth_by_nots(13)]:
                with self.subTest(repr(value)[:40]):
                    if value is not FRAME:
                        refusal(InvalidFrame, call, value, None, None, None)
                    if value != ("and", ()):
                        refusal(InvalidClaim, call, FRAME, value, None, None)
                        refusal(InvalidClaim, call, FRAME, value, ATOM, ())
                        refusal(InvalidClaim, call, FRAME, ATOM, value, ())
                        refusal(InvalidClaim, call, FRAME, ATOM, value, None)
                        refusal(InvalidClaim, call, FRAME, ATOM, ATOM, (value,))
                    if value != ():
                        refusal(InvalidClaim, call, FRAME, ATOM, ATOM, value)
            call(FRAME, ATOM, ATOM, (ATOM,) * 30)
            refusal(InvalidClaim, call, FRAME, ATOM, ATOM, (ATOM,) * 31)

    def test_too_many(self):
        for call in (are_alike, parting):
            self.assertEqual(refusal(TooMany, call, FRAME, ATOM, reading(14)).limit, 16)
            self.assertEqual(refusal(TooMany, call, FRAME, far(200), ATOM).limit, 1000)
            # Both questions are told, also where the first one is decided already.
            guard = ("and", tuple([("pos", "<=", ("k", 0), ("i", shift)) for shift in range(-7, 8)]))
            wide = ("all", ("k",), guard, BODY)
            self.assertEqual(refusal(TooMany, call, FRAME, ALWAYS, wide).limit, 16)
            self.assertEqual(refusal(TooMany, call, FRAME, wide, ALWAYS).limit, 16)
            call(FRAME, reading(13), reading(13))


class Lists(unittest.TestCase):
    def test_by_hand(self):
        claims = (below(3), below(5), ("val", "<", ("x", 0), ("", 4)), ATOM)
        self.assertEqual(implications(FRAME, claims), ((0, 1), (0, 2), (2, 0), (2, 1)))
        self.assertEqual(claim_classes(FRAME, claims), ((0, 2), (1,), (3,)))
        self.assertEqual([strongest(FRAME, claims), weakest(FRAME, claims)], [((0, 2), (3,)), ((1,), (3,))])
        self.assertEqual([needless(FRAME, claims), thinned(FRAME, claims)], [(0, 1, 2), (2, 3)])
        given = (below(1),)
        self.assertEqual(implications(FRAME, claims, given), tuple([(i, j) for i in range(4) for j in range(3) if i != j]))
        self.assertEqual(claim_classes(FRAME, claims, given), ((0, 1, 2), (3,)))
        self.assertEqual([strongest(FRAME, claims, given), weakest(FRAME, claims, given)], [((3,),), ((0, 1, 2),)])
        self.assertEqual([needless(FRAME, claims, given), thinned(FRAME, claims, given)], [(0, 1, 2), (3,)])

    def test_with_one_claim_and_with_none_that_can_be(self):
        self.assertEqual([call(FRAME, (ATOM,)) for call in LISTS], [(), ((0,),), ((0,),), ((0,),), (), (0,)])
        self.assertEqual([call(FRAME, (ALWAYS,)) for call in LISTS], [(), ((0,),), ((0,),), ((0,),), (0,), ()])
        claims = (ATOM, UP, NEVER)
        every = tuple([(i, j) for i in range(3) for j in range(3) if i != j])
        self.assertEqual([call(FRAME, claims, (NEVER,)) for call in LISTS],
                         [every, ((0, 1, 2),), ((0, 1, 2),), ((0, 1, 2),), (0, 1, 2), ()])
        self.assertEqual([call(FRAME, claims) for call in LISTS[:4]],
                         [((2, 0), (2, 1)), ((0,), (1,), (2,)), ((2,),), ((0,), (1,))])

    def test_by_the_words(self):
        for seed in range(60):
            maker = Maker(seed)
            claims = tuple([maker.claim(1) for _ in range(4)]) + (maker.claim(0),)
            claims = (*claims[:4], ("or", (claims[0], claims[4])), claims[1])
            given = tuple([maker.claim(0) for _ in range(maker.random.randrange(2))])
            if len(Question(PAIR, given + claims, ("not", ("and", claims))).members) > 16:
                continue
            with self.subTest(seed):
                self.check(claims, given)

    def check(self, claims, given):
        many = range(len(claims))
        pairs = [(i, j) for i in many for j in many if i != j and follows(Question(PAIR, (*given, claims[i]), claims[j]))]
        self.assertEqual(implications(PAIR, claims, given), tuple(pairs))
        classes = sorted({tuple([j for j in many if j == i or ((i, j) in pairs and (j, i) in pairs)]) for i in many})
        self.assertEqual(claim_classes(PAIR, claims, given), tuple(classes))
        self.assertEqual(strongest(PAIR, claims, given),
                         tuple([told for told in classes if not any(j in told and i not in told for i, j in pairs)]))
        self.assertEqual(weakest(PAIR, claims, given),
                         tuple([told for told in classes if not any(i in told and j not in told for i, j in pairs)]))
        others = [tuple([claims[j] for j in many if j != i]) for i in many]
        self.assertEqual(needless(PAIR, claims, given), tuple([i for i in many if follows(Question(PAIR, given + others[i], claims[i]))]))
        kept = list(many)
        for i in many:
            rest = [j for j in kept if j != i]
            if follows(Question(PAIR, given + tuple([claims[j] for j in rest]), claims[i])):
                kept = rest
        self.assertEqual(thinned(PAIR, claims, given), tuple(kept))
        remaining = tuple([claims[j] for j in kept])
        for claim in claims:
            self.assertIs(follows(Question(PAIR, given + remaining, claim)), True)
        if remaining:
            self.assertEqual(needless(PAIR, remaining, given), ())

    def test_errors_in_order(self):
        for call in LISTS:
            for value in [*not_names(), GUARD, BODY, depth_by_nots(13), ATOM]:
                with self.subTest(call=call, value=repr(value)[:40]):
                    if value is not FRAME:
                        refusal(InvalidFrame, call, value, None, None)
                    refusal(InvalidClaim, call, FRAME, value, None)
                    if value not in (("and", ()), ATOM):
                        refusal(InvalidClaim, call, FRAME, (ATOM, value), None)
                        refusal(InvalidClaim, call, FRAME, (ATOM,), (ATOM, value))
                    if value != ():
                        refusal(InvalidClaim, call, FRAME, (ATOM,), value)
            refusal(InvalidClaim, call, FRAME, (), ())
            refusal(InvalidClaim, call, FRAME, [ATOM], ())
            refusal(InvalidClaim, call, FRAME, (ATOM,) * 7, ())
            refusal(InvalidClaim, call, FRAME, (ATOM,), (ATOM,) * 31)
            call(FRAME, (ATOM,) * 6, (ATOM,) * 30)

    def test_too_many(self):
        for call in LISTS:
            self.assertEqual(refusal(TooMany, call, FRAME, (ATOM, reading(14))).limit, 16)
            self.assertEqual(refusal(TooMany, call, FRAME, (ATOM, ALWAYS, far(200))).limit, 1000)
            self.assertEqual(refusal(TooMany, call, FRAME, (ATOM, UP), (far(200),)).limit, 1000)
            # The first question that has one tells it; in each question of the last two both claims are there.
            self.assertEqual(refusal(TooMany, call, FRAME, (reading(14), far(200))).limit, 16)
        # Claims beside each other have more members than each by itself.
        six = tuple([("val", "<", ("a", "i", 3 * shift, 0), ("a", "j", 2 * shift, 0)) for shift in range(1, 7)])
        five = tuple([("and", (six[at], ("val", "<", ("a", "j", -at - 1, 0), ("a", "i", -at - 1, 0)))) for at in range(6)])
        self.assertEqual(implications(FRAME, five), ())
        for call in (needless, thinned):
            self.assertEqual(refusal(TooMany, call, FRAME, five).limit, 16)

    def test_too_many_of_a_later_question(self):
        # Only as a given claim, the guard of the all adds members; so the question of the first pair has few.
        guard = ("and", tuple([("pos", "<=", ("k", 0), ("i", shift)) for shift in range(-7, 8)]))
        wide = ("all", ("k",), guard, BODY)
        for call in LISTS:
            self.assertEqual(refusal(TooMany, call, FRAME, (ALWAYS, wide)).limit, 16)


class Cores(unittest.TestCase):
    def check(self, question):
        found = core(question)
        alone = Question(question.frame, tuple([question.claims[at] for at in found]), question.goal)
        self.assertIs(follows(alone), True)
        kept = list(range(len(question)))
        for at in range(len(question)):
            rest = [other for other in kept if other != at]
            if follows(Question(question.frame, tuple([question.claims[other] for other in rest]), question.goal)):
                kept = rest
        self.assertEqual(found, tuple(kept))
        indices, tree, shown = core_paper(question)
        self.assertEqual([indices, len(shown)], [found, len(found)])
        self.assertIs(is_tree(alone, tree), True)
        for at, situation in enumerate(shown):
            self.assertIs(alone.without(at).is_broken_by(situation), True)
            self.assertTrue(is_small(alone.without(at), situation))
        self.assertIs(is_core_paper(question, (indices, tree, shown)), True)
        return found

    def test_by_hand(self):
        self.assertEqual(self.check(Question(FRAME, (LOW, UP), LOW)), (1,))
        self.assertEqual(self.check(Question(FRAME, (UP, LOW), LOW)), (1,))
        self.assertEqual(self.check(Question(FRAME, (ATOM, UP), ALWAYS)), ())
        self.assertEqual(self.check(Question(FRAME, (), ALWAYS)), ())
        self.assertEqual(self.check(Question(FRAME, (below(2), below(1), below(3)), below(2))), (1,))
        chain = tuple([("val", "<=", ("a", "", at, 0), ("a", "", at + 1, 0)) for at in range(5)])
        self.assertEqual(self.check(Question(FRAME, (*chain[::-1], ATOM), ("val", "<=", ("a", "", 0, 0), ("a", "", 5, 0)))), (0, 1, 2, 3, 4))

    def test_forty_given_claims(self):
        given = tuple([below(at) for at in range(40, 0, -1)])
        self.assertEqual(self.check(Question(FRAME, given, below(40))), (39,))
        self.assertEqual(self.check(Question(FRAME, given[::-1], below(20))), (19,))

    def test_random(self):
        told = 0
        for seed in range(400):
            question, maker = random_question(seed)
            question = question.with_given(maker.claim(1)).with_given(maker.claim(0))
            if len(question.members) <= 16:
                with self.subTest(seed):
                    if follows(question):
                        told += 1 if self.check(question) else 0
                    else:
                        refusal(InvalidOperation, core, question)
                        refusal(InvalidOperation, core_paper, question)
        self.assertGreater(told, 50)

    def test_the_few_of_fewer_claims(self):
        # Without the great number of the claim that is not needed, situations are smaller.
        question = Question(FRAME, (far(60), below(1), ("pos", "<=", ("i", 2), ("j", 0))), ("and", (below(2), ("pos", "<=", ("i", 1), ("j", 0)))))
        self.assertEqual(self.check(question), (1, 2))

    def test_errors(self):
        for value in not_names():
            refusal(InvalidQuestion, core, value)
            refusal(InvalidQuestion, core_paper, value)
            refusal(InvalidQuestion, is_core_paper, value, None)
        for call in (core, core_paper):
            refusal(InvalidOperation, call, Question(FRAME, (LOW,), UP))
            self.assertEqual(refusal(TooMany, call, Question(FRAME, (reading(14),), ALWAYS)).limit, 16)
            self.assertEqual(refusal(TooMany, call, Question(FRAME, (far(200),), NEVER)).limit, 1000)

    def test_is_core_paper(self):
        question = Question(FRAME, (LOW, UP), LOW)
        indices, tree, shown = core_paper(question)
        again = Question(FRAME, (LOW,), LOW)
        first = core_paper(again)
        # Another core is right, too, and so are situations of any size.
        self.assertIs(is_core_paper(question, ((0,), first[1], first[2])), True)
        self.assertIs(is_core_paper(question, (indices, tree, (SHOWN,))), True)
        wrong = [((0, 1), tree, shown), ((0, 1), tree, shown * 2), ((), tree, ()), ((1, 0), tree, shown * 2), ((1, 1), tree, shown * 2),
                 ([1], tree, shown), ((True,), tree, shown), ((2,), tree, shown), ((-1,), tree, shown), (indices, tree, ()),
                 (indices, tree, list(shown)), (indices, tree, shown * 2), (indices, tree), (indices, tree, shown, 0),
                 (indices, tree[1:], shown), (indices, (), shown), (indices, None, shown), [indices, tree, shown], ((0,), tree, shown),
                 (indices, tree, (SHOWN.with_cell("a", 0, 0).with_cell("a", 2, 0),)), (indices, tree, (None,)), (None, tree, shown)]
        for value in [*wrong, *not_names()]:
            with self.subTest(repr(value)[:60]):
                self.assertIs(is_core_paper(question, value), False)
        for value in not_names():
            self.assertIs(is_core_paper(question, (value, tree, shown)), False)
            self.assertIs(is_core_paper(question, (indices, value, shown)), False)
            self.assertIs(is_core_paper(question, (indices, tree, value)), False)
            if value is not SHOWN:
                self.assertIs(is_core_paper(question, (indices, tree, (value,))), False)
        # A paper with the claims in another order is none.
        steps = tuple([("val", "<=", ("a", "", at, 0), ("a", "", at + 1, 0)) for at in range(2)])
        chain = Question(FRAME, steps, ("val", "<=", ("a", "", 0, 0), ("a", "", 2, 0)))
        turned = core_paper(Question(FRAME, steps[::-1], chain.goal))
        self.assertEqual([turned[0], is_core_paper(chain, turned), is_core_paper(chain, ((1, 0), *turned[1:]))], [(0, 1), False, False])
        # There is no limit of members here.
        big = Question(FRAME, (reading(14), NEVER), below(0))
        alone = Question(FRAME, (NEVER,), below(0))
        self.assertIs(is_core_paper(big, ((1,), core_paper(alone)[1], core_paper(alone)[2])), True)
        self.assertIs(is_core_paper(Question(FRAME, (), NEVER), ((), tree, ())), False)

    def test_frames(self):
        frame = Frame((), (), ())
        self.assertEqual(core_paper(Question(frame, (), ALWAYS))[0], ())


if __name__ == "__main__":
    unittest.main()
