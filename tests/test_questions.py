import unittest

from cellsenough.base.frames import Frame
from cellsenough.errors import (
    InvalidClaim, InvalidFrame, InvalidNumber, InvalidOperation, InvalidQuestion, InvalidSituation)
from cellsenough.logic.claims import all_between, in_order, is_claim, renamed_claim, replaced
from cellsenough.solve.questions import MAX_GIVEN, MAX_MEMBERS, Question
from cellsenough.world.situations import Situation
from samples import ATOM, BODY, FRAME, GUARD, LONG, SHOWN, TOO_LONG, UPTO, WIDE, depth_by_nots, not_integers, not_names, refusal
from test_truth import PAIR, Maker

AFTER = replaced(FRAME, UPTO, {"i": ("i", 1)})
NEXT = Question(FRAME, (UPTO, ("val", "<=", ("a", "i", 1, 0), ("x", 0))), AFTER)
BROKEN = Question(FRAME, (UPTO,), AFTER)
ORDER = in_order(FRAME, "a", ("", 0), ("n", -1))
K, L = ("k", 0), ("l", 0)
BASE = (("", -1), ("", 0), ("n", 0))


def members(given, wanted=("or", ()), frame=FRAME):
    return Question(frame, given, wanted).members


def random_question(seed):
    maker = Maker(seed)
    given = tuple([maker.claim(2) for _ in range(maker.random.randrange(3))])
    return Question(PAIR, given, maker.claim(2)), maker


def is_small(question, situation):
    lengths = all(number <= question.few for number in situation.lengths.values())
    return lengths and all(-question.few <= number <= question.few for number in situation.positions.values())


class Told(unittest.TestCase):
    def test_told(self):
        self.assertEqual([NEXT.frame, NEXT.claims, NEXT.goal], [FRAME, (UPTO, ("val", "<=", ("a", "i", 1, 0), ("x", 0))), AFTER])
        self.assertEqual(NEXT.facts, (("pos", "<=", ("", 0), ("n", 0)), *NEXT.claims, ("not", AFTER)))
        self.assertEqual([len(NEXT), str(NEXT)], [2, "question of 2 given, 6 members, few 12"])
        for name in ("frame", "claims", "goal", "members", "fresh", "few", "facts"):
            with self.assertRaises(AttributeError):
                setattr(NEXT, name, ())
        wide = Question(WIDE, (), ("or", ()))
        self.assertEqual(wide.facts, (("pos", "<=", ("", 0), ("n", 0)), ("pos", "<=", ("", 0), ("m", 0)), ("not", ("or", ()))))
        self.assertEqual(wide.members, (("", -1), ("", 0), ("m", 0), ("n", 0)))
        empty = Question(Frame((), (), ()), (), ("and", ()))
        self.assertEqual([empty.members, empty.fresh, empty.few, empty.facts],
                         [(("", -1), ("", 0)), (), 0, (("not", ("and", ())),)])
        self.assertEqual([MAX_GIVEN, MAX_MEMBERS], [40, 16])

    def test_members_of_claims_without_alls(self):
        self.assertEqual(members(()), BASE)
        # Positions that are only compared are no members.
        self.assertEqual(members((ATOM, ("pos", "==", ("i", 7), ("n", 3)))), BASE)
        self.assertEqual(members((("val", "<", ("a", "i", 2, 9), ("x", 4)),)), tuple(sorted((*BASE, ("i", 2)))))
        self.assertEqual(members((), ("not", ("or", (("val", "<", ("a", "", 3, 0), ("a", "n", -1, 5)),)))),
                         (("", -1), ("", 0), ("", 3), ("n", -1), ("n", 0)))
        self.assertEqual(members((("val", "<", ("a", "", 0, 0), ("a", "n", 0, 0)),)), BASE)

    def test_members_of_positive_alls(self):
        self.assertEqual(members((UPTO,)), (("", -1), ("", 0), ("i", 0), ("n", 0)))
        told = ("all", ("k", "l"), ("and", (("pos", "<=", K, L), ("or", (("pos", "==", L, ("i", 4)), ("pos", "<=", ("j", -2), K))))),
                ("val", "<", ("a", "k", 0, 1), ("a", "j", 6, 2)))
        wanted = tuple(sorted((*BASE, ("i", 4), ("j", -2), ("j", 6))))
        self.assertEqual(members((told,)), wanted)
        self.assertEqual(members((("not", ("not", told)),)), wanted)
        self.assertEqual(members((), ("not", told)), wanted)
        self.assertEqual(members((("not", ("and", (("not", ("or", (told,))),))), ("or", (told,)))), wanted)

    def test_members_of_negative_alls(self):
        self.assertEqual(members((), UPTO), (("", -1), ("", 0), ("*1", 0), ("n", 0)))
        told = ("all", ("l", "k"), ("and", (("pos", "<=", K, ("i", 1)), ("pos", "<=", ("j", 0), L))),
                ("val", "<", ("a", "k", 0, 1), ("a", "j", 6, 2)))
        wanted = (("", -1), ("", 0), ("*1", 0), ("*2", 0), ("j", 6), ("n", 0))
        self.assertEqual(members((), told), wanted)
        self.assertEqual(members((("not", told),)), wanted)
        self.assertEqual(members((), ("and", (("not", ("not", told)),))), wanted)
        # In a given claim and its not, it is both.
        both = Question(FRAME, (("or", (told, ("not", told))),), ("or", ()))
        self.assertEqual(both.members, tuple(sorted((*wanted, ("i", 1), ("j", 0)))))

    def test_an_all_that_stands_twice(self):
        twice = Question(FRAME, (("not", UPTO), ("not", ("and", (ORDER, UPTO)))), ("or", (UPTO, ORDER)))
        self.assertEqual(twice.fresh, ("*1", "*2", "*3", "*4", "*5", "*6", "*7"))
        self.assertEqual(len(twice.members), 10)
        self.assertEqual(twice.few, 10 * 3)

    def test_more_than_nine_new_positions(self):
        question = Question(FRAME, (("not", ORDER),) * 7, ("or", ()))
        self.assertEqual(question.fresh, tuple([f"*{number}" for number in range(1, 15)]))
        names = [name for name, _ in question.members]
        self.assertEqual(names, sorted(names))
        self.assertEqual(names[2:5], ["*1", "*10", "*11"])

    def test_few(self):
        cases = [
            ((), ("or", ()), 3 * 3), ((ATOM,), ("or", ()), 3 * 3), ((("pos", "<=", ("i", -4), ("j", 1)),), ("or", ()), 3 * 9),
            ((), ("pos", "<", ("", 5), ("n", 2)), 3 * 11), ((("val", "<", ("a", "j", 6, 99), ("x", 77)),), ("or", ()), 3 * 13),
            ((("not", replaced(FRAME, UPTO, {"i": ("i", -7)})),), ("or", ()), 4 * 15), ((), ORDER, 5 * 3),
            ((replaced(FRAME, UPTO, {"i": ("i", 8)}),), UPTO, 4 * 17), ((), ("pos", "<", ("i", LONG), ("j", 0)), 3 * (2 * LONG + 1)),
        ]
        for given, wanted, few in cases:
            with self.subTest(given=given, wanted=wanted):
                self.assertEqual(Question(FRAME, given, wanted).few, few)
        self.assertEqual(Question(WIDE, (), ATOM).few, 4 * 3)

    def test_no_limit(self):
        claims = tuple([("val", "<", ("a", "i", shift, 0), ("x", 0)) for shift in range(600)])
        question = Question(FRAME, (("and", claims[:300]), ("or", claims[300:])), ORDER)
        self.assertEqual([len(question.members), question.few], [3 + 2 + 600, 5 * 1199])


class Wrong(unittest.TestCase):
    def test_frame_then_the_others(self):
        for value in not_names():
            with self.subTest(repr(value)[:40]):
                if value is not FRAME:
                    refusal(InvalidFrame, Question, value, (), ATOM)
                    refusal(InvalidFrame, Question, value, None, None)
                if value != ():
                    refusal(InvalidQuestion, Question, FRAME, value, ATOM)
                if value != ("and", ()):
                    refusal(InvalidQuestion, Question, FRAME, (), value)
                    refusal(InvalidQuestion, Question, FRAME, (ATOM, value), ATOM)
        for value in (GUARD, BODY, depth_by_nots(13), ("pos", "<=", ("i", True), ("j", 0))):
            refusal(InvalidQuestion, Question, FRAME, (value,), ATOM)
            refusal(InvalidQuestion, Question, FRAME, (ATOM,), value)
        refusal(InvalidQuestion, Question, FRAME, [ATOM], ATOM)

    def test_forty_given_claims(self):
        forty = Question(FRAME, (ATOM,) * 40, ATOM)
        self.assertEqual(len(forty), 40)
        refusal(InvalidQuestion, Question, FRAME, (ATOM,) * 41, ATOM)
        refusal(InvalidOperation, forty.with_given, ATOM)
        refusal(InvalidClaim, forty.with_given, None)
        self.assertEqual(len(forty.without(39).with_given(ATOM)), 40)

    def test_given_and_wanted(self):
        for value in [*not_names(), GUARD, BODY, depth_by_nots(13)]:
            with self.subTest(repr(value)[:40]):
                if value != ("and", ()):
                    refusal(InvalidClaim, NEXT.with_given, value)
                    refusal(InvalidClaim, NEXT.wanting, value)
        for value in (*not_integers(), 2, -1, LONG):
            with self.subTest(repr(value)[:40]):
                self.assertEqual(refusal(InvalidNumber, NEXT.without, value).given, value)

    def test_situations(self):
        other = Situation(PAIR, {"a": (), "b": ()}, {"i": 0, "j": 0}, {"x": 0})
        for value in [*not_names(), other]:
            if value is SHOWN:
                continue
            with self.subTest(repr(value)[:40]):
                self.assertIs(BROKEN.is_broken_by(value), False)
                refusal(InvalidSituation, BROKEN.new_numbers, value)
                refusal(InvalidSituation, BROKEN.laid, value)
                refusal(InvalidSituation, BROKEN.small, value)
        refusal(InvalidOperation, BROKEN.small, SHOWN.with_number("i", 2))
        refusal(InvalidOperation, NEXT.small, SHOWN)

    def test_names(self):
        for value in (*not_names(), {"i": "j"}, {"i": "q", "j": "q"}, {"q": "r"}, {"i": 1}, [("i", "q")], {"n": "a"}):
            if value == {}:
                continue
            with self.subTest(repr(value)[:40]):
                refusal(InvalidOperation, NEXT.renamed, value)
                refusal(InvalidOperation, Question(FRAME, (), ATOM).renamed, value)


class Broken(unittest.TestCase):
    def test_is_broken_by(self):
        self.assertIs(BROKEN.is_broken_by(SHOWN), True)
        self.assertIs(NEXT.is_broken_by(SHOWN), False)
        self.assertIs(BROKEN.is_broken_by(SHOWN.with_number("i", 2)), False)
        self.assertIs(BROKEN.is_broken_by(SHOWN.with_number("i", 0)), False)
        same = Situation(Frame((("a", "n"),), ("i", "j"), ("x",)), {"a": (4, 0, 7)}, {"i": 1, "j": 2}, {"x": 5})
        self.assertIs(BROKEN.is_broken_by(same), True)
        turned = Situation(Frame((("a", "n"),), ("j", "i"), ("x",)), {"a": (4, 0, 7)}, {"i": 1, "j": 2}, {"x": 5})
        self.assertIs(BROKEN.is_broken_by(turned), False)

    def test_new_numbers(self):
        self.assertEqual(BROKEN.new_numbers(SHOWN), (2,))
        # A negative all that is true has zeros.
        self.assertEqual(BROKEN.new_numbers(SHOWN.with_number("i", 0)), (0,))
        both = Question(FRAME, (("not", ORDER), ("not", UPTO)), ("or", (AFTER, ORDER)))
        self.assertEqual(both.fresh, ("*1", "*2", "*3", "*4", "*5", "*6"))
        self.assertEqual(both.new_numbers(SHOWN), (0, 1, 0, 2, 0, 1))
        rising = SHOWN.with_cell("a", 1, 5)
        self.assertEqual(both.new_numbers(rising), (0, 0, 0, 2, 0, 0))
        self.assertEqual(Question(FRAME, (ORDER,), ATOM).new_numbers(SHOWN), ())

    def test_laid_by_hand(self):
        self.assertEqual(BROKEN.laid(SHOWN), SHOWN)
        long = Situation(FRAME, {"a": (1, 2, 3, 4, 5, 6, 7, 8, 9)}, {"i": 2, "j": 4}, {"x": 3})
        # Members at -1, 0, 2, 9, and the new position at 3.
        self.assertEqual(BROKEN.laid(long).rows, {"a": (1, 1, 3, 4, 4, 4, 4, 4, 4)})
        self.assertEqual(Question(FRAME, (), ATOM).laid(long).rows, {"a": (1,) * 9})
        self.assertEqual(Question(FRAME, (("val", "<", ("a", "j", 3, 0), ("x", 0)),), ATOM).laid(long).rows,
                         {"a": (1,) * 7 + (8, 8)})
        self.assertEqual(long.rows, {"a": (1, 2, 3, 4, 5, 6, 7, 8, 9)})
        far = long.with_number("i", -10 ** 50).with_number("j", 10 ** 50)
        self.assertEqual(BROKEN.laid(far).rows, {"a": (1,) * 9})
        empty = Situation(FRAME, {"a": ()}, {"i": 0, "j": 0}, {"x": 0})
        self.assertEqual(BROKEN.laid(empty), empty)

    def test_laid_and_small(self):
        told = {True: 0, False: 0}
        for seed in range(1500):
            question, maker = random_question(seed)
            situation = maker.situation()
            is_broken = question.is_broken_by(situation)
            told[is_broken] += 1
            laid = question.laid(situation)
            with self.subTest(seed):
                self.assertEqual([laid.lengths, laid.positions, laid.amounts],
                                 [situation.lengths, situation.positions, situation.amounts])
                self.check_changes(question, situation, laid)
                if is_broken:
                    self.assertIs(question.is_broken_by(laid), True)
                    small = question.small(situation)
                    self.assertIs(question.is_broken_by(small), True)
                    self.assertTrue(is_small(question, small))
        self.assertGreater(told[True], 100)

    def check_changes(self, question, situation, laid):
        """That each cell is the one at the greatest member that is not beyond it."""
        new = dict(zip(question.fresh, question.new_numbers(situation)))
        numbers = {"": 0, **situation.positions, **situation.lengths, **new}
        places = [numbers[name] + shift for name, shift in question.members]
        for array, row in laid.rows.items():
            wanted = [situation.cell(array, max(at for at in places if at <= cell)) for cell in range(len(row))]
            self.assertEqual(row, tuple(wanted))

    def test_small_of_far_positions_and_long_arrays(self):
        order = in_order(PAIR, "a", ("i", 3), ("j", -1))
        claim = all_between(PAIR, ("i", 3), ("j", -1), "<=", ("a", "k", 0, 0), ("b", "k", 0, 0))
        question = Question(PAIR, (("pos", "<", ("i", 40), ("j", 0)), claim), order)
        row = tuple(range(2000, 0, -1))
        for more in (0, 10 ** 49):
            situation = Situation(PAIR, {"a": row, "b": (2000,) * 900 + (3000,) * 5000}, {"i": 10 - more, "j": 700 + more},
                                  {"x": 0})
            self.assertIs(question.is_broken_by(situation), True)
            small = question.small(situation)
            self.assertIs(question.is_broken_by(small), True)
            self.assertTrue(is_small(question, small))
        self.assertEqual(question.few, 6 * 81)
        far = Question(PAIR, (), ("pos", "<=", ("i", 0), ("j", 0)))
        apart = Situation(PAIR, {"a": (), "b": ()}, {"i": 10 ** 59, "j": -10 ** 59}, {"x": 10 ** 59})
        self.assertTrue(is_small(far, far.small(apart)))
        self.assertIs(far.is_broken_by(far.small(apart)), True)

    def test_small_keeps_what_is_small_as_broken(self):
        small = BROKEN.small(SHOWN)
        self.assertIs(BROKEN.is_broken_by(small), True)
        small.rows.clear()
        self.assertEqual(BROKEN.small(SHOWN), small)

    def test_small_without_positions(self):
        frame = Frame((), (), ("x",))
        question = Question(frame, (), ("val", "<", ("x", 0), ("", 0)))
        situation = Situation(frame, {}, {}, {"x": LONG})
        self.assertEqual([question.few, question.small(situation)], [0, situation])


class Made(unittest.TestCase):
    def test_with_and_without(self):
        self.assertEqual(BROKEN.with_given(NEXT.claims[1]), NEXT)
        self.assertEqual([NEXT.without(1), NEXT.without(0).claims], [BROKEN, NEXT.claims[1:]])
        self.assertEqual(NEXT.wanting(UPTO), Question(FRAME, NEXT.claims, UPTO))
        self.assertEqual([len(NEXT), len(BROKEN), BROKEN.claims], [2, 1, (UPTO,)])

    def test_renamed(self):
        names = {"a": "b", "i": "k", "n": "nn", "x": "a"}
        told = NEXT.renamed(names)
        frame = FRAME.renamed(names)
        self.assertEqual(told, Question(frame, tuple([renamed_claim(FRAME, claim, names) for claim in NEXT.claims]),
                                        renamed_claim(FRAME, AFTER, names)))
        self.assertEqual([len(told.members), told.few, names], [6, 12, {"a": "b", "i": "k", "n": "nn", "x": "a"}])
        self.assertEqual(NEXT.renamed({}), NEXT)

    def test_renamed_is_broken_likewise(self):
        names = {"a": "b", "b": "a", "i": "k", "j": "i", "x": "l"}
        for seed in range(300):
            question, maker = random_question(seed)
            if not all(is_claim(PAIR, claim) for claim in (*question.claims, question.goal)):
                continue
            told = maker.situation()
            other = Situation(PAIR.renamed(names), {"b": told.rows["a"], "a": told.rows["b"]},
                              {"k": told.positions["i"], "i": told.positions["j"]}, {"l": told.amounts["x"]})
            self.assertIs(question.renamed(names).is_broken_by(other), question.is_broken_by(told))

    def test_equality(self):
        same = Question(Frame((("a", "n"),), ("i", "j"), ("x",)), (UPTO,), AFTER)
        self.assertIs(BROKEN == same, True)
        self.assertIs(BROKEN != same, False)
        others = [NEXT, BROKEN.wanting(UPTO), BROKEN.without(0), BROKEN.with_given(UPTO), BROKEN.renamed({"x": "y"}),
                  Question(Frame((("a", "n"),), ("j", "i"), ("x",)), (UPTO,), AFTER), Question(FRAME, NEXT.claims[::-1], AFTER)]
        for other in [*others, *not_names()]:
            with self.subTest(repr(other)[:40]):
                self.assertIs(BROKEN == other, False)
                self.assertIs(BROKEN != other, True)
        refusal(TypeError, iter, BROKEN)

    def test_too_long_integers_are_no_claims(self):
        refusal(InvalidQuestion, Question, FRAME, (), ("pos", "<", ("i", TOO_LONG), ("j", 0)))


if __name__ == "__main__":
    unittest.main()
