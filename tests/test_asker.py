import unittest

from cellsenough.base.frames import Frame
from cellsenough.decide.follows import Asker, follows, is_paper
from cellsenough.errors import InvalidClaim, InvalidFrame, InvalidNumber, InvalidOperation, NothingToUndo, Refused, TooMany
from cellsenough.solve.questions import Question
from cellsenough.solve.trees import is_tree
from samples import ATOM, BODY, FRAME, GUARD, LONG, SHOWN, UPTO, depth_by_nots, not_integers, not_names, refusal
from test_questions import is_small
from test_truth import PAIR, Maker

CELL = ("val", "<=", ("a", "i", 0, 0), ("x", 0))
FROM_ZERO = ("pos", "<=", ("", 0), ("i", 0))
NEVER = ("or", ())


def told(*claims, frame=FRAME):
    asker = Asker(frame)
    for claim in claims:
        asker.tell(claim)
    return asker


def reading(shifts):
    """A claim that reads so many cells."""
    return ("and", tuple([("val", "<=", ("a", "i", shift, 0), ("a", "i", shift, 0)) for shift in range(1, shifts + 1)]))


class Told(unittest.TestCase):
    def test_tell_and_ask(self):
        asker = Asker(FRAME)
        self.assertEqual([asker.known, len(asker), str(asker)], [(), 0, "asker with 0 claims"])
        self.assertIs(asker.tell(UPTO), True)
        self.assertEqual(asker.ask(CELL), "open")
        self.assertIs(asker.tell(FROM_ZERO), True)
        self.assertEqual([asker.ask(CELL), asker.ask(("not", CELL)), asker.ask(("not", ("not", CELL)))], ["yes", "no", "yes"])
        self.assertEqual([asker.known, len(asker), str(asker)], [(UPTO, FROM_ZERO), 2, "asker with 2 claims"])
        with self.assertRaises(AttributeError):
            asker.known = ()

    def test_refused(self):
        asker = told(UPTO, FROM_ZERO)
        claim = ("val", "<", ("x", 0), ("a", "i", 0, 0))
        error = refusal(Refused, asker.tell, claim)
        self.assertIs(is_tree(Question(FRAME, (UPTO, FROM_ZERO, claim), NEVER), error.claim), True)
        self.assertEqual(asker, told(UPTO, FROM_ZERO))
        error = refusal(Refused, Asker(FRAME).tell, NEVER)
        self.assertIs(is_tree(Question(FRAME, (NEVER,), NEVER), error.claim), True)

    def test_a_claim_that_has_no_room_for_a_not(self):
        deep = depth_by_nots(12)
        self.assertEqual(Asker(FRAME).ask(deep), "open")
        self.assertEqual([told(ATOM).ask(deep), told(("not", ATOM)).ask(deep), told(deep).ask(deep)], ["no", "yes", "yes"])

    def test_why_and_example(self):
        asker = told(UPTO, FROM_ZERO)
        for claim in (CELL, ("not", CELL), ATOM, UPTO, NEVER):
            question = Question(FRAME, asker.known, claim)
            with self.subTest(claim):
                self.assertIs(is_paper(question, asker.why(claim)), True)
                self.assertEqual(asker.why(claim)[0], "follows" if asker.ask(claim) == "yes" else "broken")
        shown = asker.example()
        question = Question(FRAME, asker.known, NEVER)
        self.assertIs(question.is_broken_by(shown), True)
        self.assertTrue(is_small(question, shown))
        shown.rows.clear()
        self.assertEqual(asker.example(), shown)
        self.assertIs(Question(FRAME, (), NEVER).is_broken_by(Asker(FRAME).example()), True)

    def test_random(self):
        answers = {"yes": 0, "no": 0, "open": 0}
        for seed in range(150):
            maker = Maker(seed)
            asker = Asker(PAIR)
            asked = {}
            for _ in range(5):
                claim, other = maker.claim(1), maker.claim(1)
                question = Question(PAIR, (*asker.known, claim), NEVER)
                if len(question.members) > 10:
                    continue
                with self.subTest(seed):
                    if follows(question):
                        self.assertIs(is_tree(question, refusal(Refused, asker.tell, claim).claim), True)
                    else:
                        self.assertIs(asker.tell(claim), True)
                    if len(Question(PAIR, asker.known, other).members) <= 13:
                        asked[other] = asker.ask(other)
                        answers[asked[other]] += 1
                        self.assertEqual(asked[other] == "yes", follows(Question(PAIR, asker.known, other)))
                        self.assertEqual(asked[other] == "no", follows(Question(PAIR, asker.known, ("not", other))))
                    # What was answered is not open again.
                    for before in asked:
                        if asked[before] != "open" and len(Question(PAIR, asker.known, before).members) <= 16:
                            self.assertEqual(asker.ask(before), asked[before])
        self.assertGreater(min(answers.values()), 20)


class Wrong(unittest.TestCase):
    def test_frames_and_claims(self):
        asker = told(UPTO)
        for value in [*not_names(), GUARD, BODY, depth_by_nots(13)]:
            with self.subTest(repr(value)[:40]):
                if value is not FRAME:
                    refusal(InvalidFrame, Asker, value)
                if value != ("and", ()):
                    for call in (asker.tell, asker.ask, asker.why):
                        refusal(InvalidClaim, call, value)
        self.assertEqual(asker.known, (UPTO,))

    def test_thirty_nine_claims(self):
        asker = told(*[ATOM] * 39)
        self.assertEqual(len(asker), 39)
        refusal(InvalidOperation, asker.tell, ATOM)
        # It would be refused, or have too many members, but there are 39 already.
        refusal(InvalidOperation, asker.tell, NEVER)
        refusal(InvalidOperation, asker.tell, reading(20))
        refusal(InvalidClaim, asker.tell, None)
        self.assertEqual([asker.ask(ATOM), asker.ask(("not", ATOM)), asker.ask(UPTO), asker.why(ATOM)[0]], ["yes", "no", "open", "follows"])
        self.assertIs(Question(FRAME, (ATOM,), NEVER).is_broken_by(asker.example()), True)
        asker.undo()
        self.assertIs(asker.tell(ATOM), True)

    def test_too_many(self):
        asker = told(reading(10))
        for claim, limit in ((reading(14), 16), (("not", reading(14)), 16), (("pos", "<=", ("i", 300), ("j", 0)), 1000)):
            with self.subTest(claim):
                self.assertEqual(refusal(TooMany, asker.tell, claim).limit, limit)
                self.assertEqual(refusal(TooMany, asker.ask, claim).limit, limit)
                self.assertEqual(refusal(TooMany, asker.why, claim).limit, limit)
        self.assertEqual(len(asker), 1)
        self.assertIs(asker.tell(reading(13)), True)

    def test_too_many_in_the_second_question_alone(self):
        # As a wanted claim, the guard of the all adds no members; as a claim that is told, it does.
        guard = ("and", tuple([("pos", "<=", ("k", 0), ("i", shift)) for shift in range(-7, 8)]))
        true = ("all", ("k",), guard, ("val", "<=", ("a", "k", 0, 0), ("a", "k", 0, 0)))
        false = ("all", ("k",), guard, ("val", "<", ("a", "k", 0, 0), ("a", "k", 0, 0)))
        asker = Asker(FRAME)
        self.assertEqual([asker.ask(true), asker.why(false)[0]], ["yes", "broken"])
        self.assertEqual(refusal(TooMany, asker.ask, false).limit, 16)
        self.assertEqual(refusal(TooMany, asker.tell, true).limit, 16)


class Changed(unittest.TestCase):
    def test_undo(self):
        asker = told(UPTO, FROM_ZERO, ATOM)
        self.assertEqual([asker.undo(many=0), asker.undo(), asker.known], [(), (ATOM,), (UPTO, FROM_ZERO)])
        self.assertEqual([asker.ask(CELL), asker.undo(many=1), asker.ask(CELL)], ["yes", (FROM_ZERO,), "open"])
        asker.tell(ATOM)
        self.assertEqual([asker.undo(many=2), asker.known, asker.undo(many=0)], [(ATOM, UPTO), (), ()])
        self.assertEqual(refusal(NothingToUndo, asker.undo).many, 1)
        self.assertEqual(refusal(NothingToUndo, told(ATOM).undo, many=LONG).many, LONG)
        for value in (*not_integers(), -1, -LONG):
            with self.subTest(repr(value)[:40]):
                self.assertEqual(refusal(InvalidNumber, asker.undo, many=value).given, value)

    def test_twin(self):
        asker = told(UPTO)
        twin = asker.twin()
        self.assertEqual(twin, asker)
        twin.tell(FROM_ZERO)
        self.assertEqual([twin.ask(CELL), asker.ask(CELL), twin == asker], ["yes", "open", False])
        asker.undo()
        self.assertEqual([twin.known, asker.known], [(UPTO, FROM_ZERO), ()])

    def test_contains(self):
        asker = told(UPTO, ("pos", "<=", ("i", 1), ("j", 0)))
        self.assertEqual([UPTO in asker, ("pos", "<=", ("i", 1), ("j", 0)) in asker, ATOM in asker], [True, True, False])
        for value in [*not_names(), ("pos", "<=", ("i", True), ("j", 0)), ["pos", "<=", ("i", 1), ("j", 0)], GUARD, (UPTO,)]:
            with self.subTest(repr(value)[:40]):
                self.assertIs(value in asker, False)

    def test_equality(self):
        asker = told(UPTO, ATOM)
        self.assertIs(asker == told(UPTO, ATOM), True)
        self.assertIs(asker != told(UPTO, ATOM), False)
        turned = told(UPTO, ATOM, frame=Frame((("a", "n"),), ("j", "i"), ("x",)))
        for other in [told(ATOM, UPTO), told(UPTO), Asker(FRAME), turned, (UPTO, ATOM), SHOWN, *not_names()]:
            with self.subTest(repr(other)[:40]):
                self.assertIs(asker == other, False)
                self.assertIs(asker != other, True)
        refusal(TypeError, iter, asker)


if __name__ == "__main__":
    unittest.main()
