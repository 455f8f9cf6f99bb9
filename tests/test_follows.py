import time
import unittest

from cellsenough.base.frames import Frame
from cellsenough.decide.follows import breaking, follows, is_paper, paper
from cellsenough.errors import InvalidQuestion, TooMany
from cellsenough.logic.claims import all_between, in_order, is_claim, renamed_claim, replaced
from cellsenough.solve.questions import Question
from cellsenough.solve.trees import is_tree
from cellsenough.world.listing import first_breaking
from cellsenough.world.situations import Situation
from samples import ATOM, FRAME, LONG, SHOWN, UPTO, not_names, refusal
from test_questions import is_small, random_question
from test_trees import BROKEN, I, J, N, NEXT, TREE, X, question_of
from test_truth import PAIR

UP = in_order(FRAME, "a", ("", 0), ("n", -1))
LOW = all_between(FRAME, ("", 0), ("n", -1), "<=", ("a", "", 0, 0), ("a", "k", 0, 0))
ARRAYS = Frame(tuple([(name, "n") for name in "abcdefghijkl"]), tuple("opqrst"), ("x", "y"))
ZERO, LAST = ("", 0), ("n", -1)


def alike(one, other, low=ZERO, high=LAST):
    """Two arrays agree from low to high."""
    return all_between(ARRAYS, low, high, "==", (one, "kk", 0, 0), (other, "kk", 0, 0))


def written(before, after, place, term):
    """An array is as another one was, but for one cell."""
    guard = ("or", (("pos", "<=", ("kk", 0), (place, -1)), ("pos", "<=", (place, 1), ("kk", 0))))
    rest = ("all", ("kk",), guard, ("val", "==", (after, "kk", 0, 0), (before, "kk", 0, 0)))
    return (("val", "==", (after, place, 0, 0), term), rest)


def of_members(many):
    """A question with so many members, at least five, that follows as nothing is less than itself."""
    shifts = [("val", "<=", ("a", "i", shift, 0), ("a", "j", shift, 0)) for shift in range((many - 3) // 2)]
    more = [("val", "<=", ("a", "i", -1, 0), X)] if many % 2 == 0 else []
    return question_of(*shifts, *more, wanted=("pos", "<=", I, I))


class Papers(unittest.TestCase):
    def check(self, question, answer=None):
        """That the paper of a question is right, and all that is told agrees with it."""
        told = paper(question)
        self.assertIs(is_paper(question, told), True)
        self.assertIs(follows(question), told[0] == "follows")
        shown = breaking(question)
        if told[0] == "follows":
            self.assertIsNone(shown)
            self.assertIs(is_tree(question, told[1]), True)
        else:
            for situation in (shown, told[1]):
                self.assertIs(question.is_broken_by(situation), True)
                self.assertTrue(is_small(question, situation))
        if answer is not None:
            self.assertIs(follows(question), answer)
        return told

    def test_by_hand(self):
        for question, answer in [
            (NEXT, True), (BROKEN, False), (question_of(UP, wanted=LOW), True), (question_of(LOW, wanted=UP), False),
            (question_of(wanted=("and", ())), True), (question_of(wanted=("or", ())), False), (question_of(("or", ())), True),
            (question_of(ATOM, wanted=ATOM), True), (question_of(wanted=("or", (ATOM, ("not", ATOM)))), True),
            (question_of(UP, wanted=UP), True), (question_of(("not", UP), wanted=("not", UP)), True),
            (question_of(UP, wanted=("not", UP)), False), (question_of(UP, ("not", UP)), True),
            (question_of(("pos", "<", I, J), ("pos", "<", J, ("i", 2)), wanted=("pos", "==", J, ("i", 1))), True),
            (question_of(("val", "<", X, ("", 2)), ("val", "<", ("", 0), X), wanted=("val", "==", X, ("", 1))), True),
            (question_of(wanted=("pos", "<=", ZERO, N)), True), (question_of(wanted=("pos", "<", ZERO, N)), False),
        ]:
            with self.subTest(str(question)):
                self.check(question, answer)

    def test_cells_outside(self):
        cell = ("a", "i", 0, 0)
        for given, wanted, answer in [
            (("pos", "<", I, ZERO), ("val", "==", cell, ("", 0)), True),
            (("pos", "<=", N, I), ("val", "==", cell, ("", 0)), True),
            (("pos", "<=", I, ZERO), ("val", "==", cell, ("", 0)), False),
            (("pos", "<=", LAST, I), ("val", "==", cell, ("", 0)), False),
            (("val", "<", cell, ("", 0)), ("and", (("pos", "<=", ZERO, I), ("pos", "<", I, N))), True),
            # The first cell of an array that has none.
            (("pos", "==", N, ZERO), ("val", "==", ("a", "", 0, 0), ("", 0)), True),
            (("pos", "<=", N, ZERO), ("val", "==", ("a", "", 0, 5), ("", 5)), True),
            (("pos", "<=", N, ("", 1)), ("val", "==", ("a", "", 0, 0), ("", 0)), False),
            (("pos", "<=", N, ("", 1)), ("val", "==", ("a", "", 1, 0), ("", 0)), True),
            (("pos", "<", I, I), ("or", ()), True),
            (("and", ()), ("val", "==", ("a", "n", 0, 0), ("a", "", -1, 0)), True),
            (("and", ()), ("val", "==", ("a", "n", -1, 0), ("a", "", -1, 0)), False),
            (("all", ("k",), ("and", ()), ("val", "<=", ("a", "k", 0, 0), X)), ("val", "<=", ("", 0), X), True),
        ]:
            with self.subTest(given=given, wanted=wanted):
                self.check(question_of(given, wanted=wanted), answer)

    def test_a_new_name_of_which_nothing_is_needed_but_the_name(self):
        never = ("all", ("k",), ("and", ()), ("val", "<", ("a", "k", 0, 0), ("a", "k", 0, 0)))
        tree = self.check(question_of(never, wanted=UPTO), True)[1]
        self.assertEqual([node[0] for node in tree].count("at"), 1)

    def test_random(self):
        told = {True: 0, False: 0}
        for seed in range(700):
            question, _ = random_question(seed)
            if len(question.members) > 16:
                continue
            with self.subTest(seed):
                answer = self.check(question)[0] == "follows"
                told[answer] += 1
                if answer and seed < 250:
                    self.assertIsNone(first_breaking(PAIR, question.claims, question.goal, 2, 0, 1))
        self.assertGreater(min(told.values()), 200)

    def test_a_tree_of_a_question_is_none_of_one_that_does_not_follow(self):
        for seed in range(300):
            question, _ = random_question(seed)
            if len(question.members) > 16 or not follows(question):
                continue
            tree = paper(question)[1]
            for at in range(len(question)):
                fewer = question.without(at)
                if not follows(fewer):
                    self.assertIs(is_tree(fewer, tree), False)
                    self.assertIs(is_paper(fewer, ("follows", tree)), False)

    def test_names_more_claims_and_terms_do_not_matter(self):
        names = {"a": "b", "b": "c", "i": "k", "j": "i", "x": "l", "n": "nn"}
        for seed in range(250):
            question, maker = random_question(seed)
            if len(question.members) > 14:
                continue
            answer = follows(question)
            with self.subTest(seed):
                self.assertIs(follows(question.renamed(names)), answer)
                more = question.with_given(maker.claim(1))
                if answer and len(more.members) <= 16:
                    self.assertIs(follows(more), True)
                terms = {"i": ("j", 1), "x": ("b", "j", 0, -1)}
                claims = [replaced(PAIR, claim, terms) for claim in (*question.claims, question.goal)]
                other = Question(PAIR, tuple(claims[:-1]), claims[-1])
                if answer and len(other.members) <= 16:
                    self.assertIs(follows(other), True)

    def test_by_one_given_claim_alone(self):
        wanted = ("val", "<=", ("a", "i", 0, 0), ("a", "j", 0, 0))
        others = [LOW, ("pos", "<=", ("i", 3), N), ("val", "<", X, ("", 7)), ("not", ("pos", "==", I, ("j", 5))), ("pos", "<", J, N)]
        needed = ("all", ("k", "l"), ("and", (("pos", "==", ("k", 0), I), ("pos", "==", ("l", 0), J))),
                  ("val", "<=", ("a", "k", 0, 0), ("a", "l", 0, 0)))
        for at in range(len(others) + 1):
            given = (*others[:at], needed, *others[at:])
            self.check(question_of(*given, wanted=wanted), True)
        self.check(question_of(*others, wanted=wanted), False)

    def test_positions_of_more_than_a_hundred(self):
        frame = Frame((("a", "n"),), ("i",), ("x",))
        claim = all_between(frame, ("i", -120), ("i", 120), "<=", ("a", "k", 0, 0), ("x", 0))
        for shift, answer in ((120, True), (-120, True), (17, True), (121, False), (-121, False)):
            wanted = ("val", "<=", ("a", "i", shift, 0), ("x", 0))
            self.check(Question(frame, (claim,), wanted), answer)
        long = Question(frame, (in_order(frame, "a", ZERO, LAST),), ("pos", "<=", N, ("", 160)))
        self.assertGreater(self.check(long, False)[1].lengths["n"], 160)
        far = Question(frame, (), ("pos", "<=", ("", -160), ("i", 0)))
        self.assertLess(self.check(far, False)[1].positions["i"], -160)

    def test_very_great_values(self):
        far = 10 ** 50
        given = (("val", "<=", ("x", 0), ("a", "i", 0, -far)), ("val", "<=", ("a", "i", 0, 0), ("a", "j", 0, -far)))
        self.check(question_of(*given, wanted=("val", "<=", X, ("a", "j", 0, -2 * far))), True)
        shown = self.check(question_of(*given, wanted=("val", "<=", X, ("a", "j", 0, -2 * far - 1))), False)[1]
        self.assertTrue(all(abs(number) < 10 ** 61 for row in shown.rows.values() for number in row))
        # Here the numbers fit into sixty digits only if the middle one is near to 0.
        frame = Frame((("a", "n"),), ("i",), ("u", "v", "w"))
        steps = (("val", "<=", ("u", LONG), ("v", 0)), ("val", "<=", ("v", LONG - 9), ("a", "i", 0, 0)))
        shown = self.check(Question(frame, steps, ("val", "==", ("w", 0), ("", 0))), False)[1]
        self.assertEqual(Situation(frame, shown.rows, shown.positions, shown.amounts), shown)
        # Here integers with more digits than a situation can be made of are needed.
        beyond = question_of(("val", "==", X, ("", LONG)), wanted=("val", "<=", ("a", "i", 0, 0), ("x", LONG)))
        self.check(beyond, False)

    def test_depth_of_the_wanted_claim(self):
        deep = ATOM
        for _ in range(11):
            deep = ("not", deep)
        self.check(question_of(("not", ATOM), wanted=deep), True)
        self.check(question_of(ATOM, wanted=deep), False)

    def test_what_is_told_is_the_same_again(self):
        self.assertEqual([paper(NEXT), paper(BROKEN)], [paper(NEXT), paper(BROKEN)])
        told = breaking(BROKEN)
        told.rows.clear()
        self.assertEqual(breaking(BROKEN), paper(BROKEN)[1])
        self.assertEqual(NEXT, Question(FRAME, NEXT.claims, NEXT.goal))


class Limits(unittest.TestCase):
    def test_sixteen_members(self):
        for many in range(5, 19):
            question = of_members(many)
            self.assertEqual(len(question.members), many)
            for call in (follows, breaking, paper):
                if many <= 16:
                    call(question)
                else:
                    self.assertEqual(refusal(TooMany, call, question).limit, 16)

    def test_a_few_of_a_thousand(self):
        frame = Frame((("a", "n"),), (), ())
        for number, few in ((499, 999), (500, 1001)):
            question = Question(frame, (), ("pos", "<=", ("", number), ("n", 0)))
            self.assertEqual(question.few, few)
            if few <= 1000:
                self.assertIs(follows(question), False)
            else:
                for call in (follows, breaking, paper):
                    self.assertEqual(refusal(TooMany, call, question).limit, 1000)
        wide = Frame((("a", "n"), ("b", "m"), ("c", "l")), tuple("ij"), ())
        for number, few in ((99, 995), (100, 1005)):
            question = Question(wide, (), ("pos", "<=", ("i", number), ("j", 0)))
            self.assertEqual(question.few, few)
            self.assertIs(is_small(question, breaking(question)) if few <= 1000 else refusal(TooMany, breaking, question).limit == 1000, True)
        # Many members are told ahead of a great few.
        both = Question(FRAME, of_members(17).claims, ("pos", "<=", ("i", 0), ("j", 999)))
        self.assertEqual(refusal(TooMany, follows, both).limit, 16)

    def test_exactly_a_thousand(self):
        frame = Frame((("a", "n"), ("b", "m")), tuple("ijkl") + ("o", "p"), ())
        question = Question(frame, (), ("pos", "<=", ("i", 62), ("j", 0)))
        self.assertEqual(question.few, 8 * 125)
        self.assertIs(question.is_broken_by(breaking(question)), True)

    def test_wrong_questions(self):
        for value in not_names():
            for call in (follows, breaking, paper):
                refusal(InvalidQuestion, call, value)
            refusal(InvalidQuestion, is_paper, value, None)


class Judged(unittest.TestCase):
    def test_is_paper(self):
        self.assertIs(is_paper(NEXT, ("follows", TREE)), True)
        self.assertIs(is_paper(BROKEN, ("broken", SHOWN)), True)
        wrong = [("broken", TREE), ("follows", SHOWN), ("broken", SHOWN, 0), ("follows",), ["follows", TREE], ("Follows", TREE),
                 (True, TREE), (None, TREE), ("open", TREE), TREE, SHOWN, ("broken", None), ("follows", None), (("follows",), TREE)]
        for value in [*wrong, *not_names()]:
            with self.subTest(repr(value)[:40]):
                self.assertIs(is_paper(BROKEN, value), False)
                if value != ("follows", TREE):
                    self.assertIs(is_paper(NEXT, value), False)
        self.assertIs(is_paper(NEXT, ("broken", SHOWN)), False)
        self.assertIs(is_paper(BROKEN, ("follows", TREE)), False)

    def test_of_any_size(self):
        big = of_members(40)
        self.assertIs(is_paper(big, ("follows", (("ring", ((len(big.facts) - 1, 0),)),))), True)
        long = Situation(FRAME, {"a": tuple(range(3000))}, {"i": 2000, "j": -10 ** 40}, {"x": 2000})
        self.assertIs(is_paper(BROKEN, ("broken", long)), True)


class Hard(unittest.TestCase):
    """Questions with many members and arrays, which a search through all orders would not end."""

    def check(self, question, answer):
        began = time.monotonic()
        told = paper(question)
        self.assertLess(time.monotonic() - began, 20)
        self.assertIs(is_paper(question, told), True)
        self.assertEqual(told[0], "follows" if answer else "broken")
        if not answer:
            self.assertTrue(is_small(question, told[1]))

    def test_arrays_that_agree(self):
        names = "abcdefghijkl"
        given = tuple([alike(one, other) for one, other in zip(names, names[1:])])
        self.check(Question(ARRAYS, given, alike("l", "a")), True)
        self.check(Question(ARRAYS, given[:5] + given[6:], alike("l", "a")), False)

    def test_six_writes(self):
        names, places = "abcdefg", "opqrst"
        given = [written(names[at], names[at + 1], places[at], ("x", at))[1] for at in range(6)]
        guard = ("or", (("pos", "<=", ("kk", 0), ("o", -1)), ("pos", "<=", ("t", 1), ("kk", 0))))
        wanted = ("all", ("kk",), guard, ("val", "==", ("a", "kk", 0, 0), ("g", "kk", 0, 0)))
        order = [("pos", "<=", (one, 0), (other, 0)) for one, other in zip(places, places[1:])]
        question = Question(ARRAYS, (*given, *order), wanted)
        self.assertEqual(len(question.members), 16)
        self.check(question, True)
        self.check(Question(ARRAYS, tuple(given), wanted), False)
        self.check(Question(ARRAYS, (*given, *order[:3], *order[4:]), wanted), False)

    def test_stretches_in_order(self):
        frame = Frame((("a", "n"),), tuple("opqrst"), ())
        places = [(name, 0) for name in "opqrst"]
        given = tuple([in_order(frame, "a", one, other) for one, other in zip(places, places[1:])])
        self.check(Question(frame, given, in_order(frame, "a", places[0], places[5])), True)
        apart = tuple([in_order(frame, "a", one, (other[0], -1)) for one, other in zip(places, places[1:])])
        self.check(Question(frame, apart, in_order(frame, "a", places[0], places[5])), False)

    def test_positions_that_differ(self):
        places = "opqrst"
        differ = tuple([("not", ("pos", "==", (one, 0), (other, 0))) for one in places for other in places if one < other])
        for last, answer in ((5, True), (6, False)):
            within = [("and", (("pos", "<=", ("", 1), (name, 0)), ("pos", "<=", (name, 0), ("", last)))) for name in places]
            self.check(Question(ARRAYS, (("and", differ), *within), ("or", ())), answer)

    def test_a_swap_and_an_insertion(self):
        below = [all_between(ARRAYS, ZERO, LAST, "<=", (name, "kk", 0, 0), ("x", 0)) for name in "ac"]
        inside = [("and", (("pos", "<=", ZERO, (name, 0)), ("pos", "<", (name, 0), N))) for name in "op"]
        swap = (*written("a", "b", "o", ("a", "p", 0, 0)), *written("b", "c", "p", ("a", "o", 0, 0)))
        self.check(Question(ARRAYS, (*swap, *inside, below[0]), below[1]), True)
        order = [in_order(ARRAYS, name, ZERO, LAST) for name in "ac"]
        self.check(Question(ARRAYS, (*swap, *inside, order[0]), order[1]), False)
        same = ("val", "==", ("a", "o", 0, 0), ("a", "p", 0, 0))
        self.check(Question(ARRAYS, (*swap, *inside, order[0], same), order[1]), True)
        stretch = (in_order(ARRAYS, "a", ZERO, ("o", -1)), in_order(ARRAYS, "a", ("o", 1), ("p", 0)))
        between = (all_between(ARRAYS, ZERO, ("o", -1), "<=", ("a", "kk", 0, 0), ("x", 0)),
                   all_between(ARRAYS, ("o", 1), ("p", 0), "<=", ("x", 0), ("a", "kk", 0, 0)))
        insertion = (*stretch, *between, *written("a", "b", "o", ("x", 0)))
        self.check(Question(ARRAYS, insertion, in_order(ARRAYS, "b", ZERO, ("p", 0))), True)
        self.check(Question(ARRAYS, insertion[:3] + insertion[4:], in_order(ARRAYS, "b", ZERO, ("p", 0))), False)

    def test_claims_stay_claims(self):
        # What is renamed here has own names that are names there.
        told = renamed_claim(ARRAYS, alike("a", "b"), {"o": "kk"})
        self.assertIs(is_claim(ARRAYS.renamed({"o": "kk"}), told), True)


if __name__ == "__main__":
    unittest.main()
