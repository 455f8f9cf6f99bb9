"""How much is done for questions that leave little to be searched, counted in calls of functions."""

import sys
import unittest

from cellsenough.decide.compare import implications, strongest
from cellsenough.decide.follows import Asker, follows
from cellsenough.errors import Refused, TooMany
from cellsenough.solve.questions import Question
from samples import FRAME, refusal
from test_trees import NEXT

AT_MOST = tuple([("val", "<=", ("x", 0), ("", number)) for number in range(6)])


def calls(function, *args):
    """How many functions, written in Python, are called for a call."""
    many = 0

    def count(frame, event, arg):
        nonlocal many
        many += event == "call"

    sys.setprofile(count)
    try:
        function(*args)
    finally:
        sys.setprofile(None)
    return many


def tell_all(claims):
    asker = Asker(FRAME)
    for claim in claims:
        asker.tell(claim)
    return asker


class Effort(unittest.TestCase):
    def test_nothing_to_be_searched(self):
        self.assertLess(calls(follows, Question(FRAME, (), ("and", ()))), 150)
        self.assertLess(calls(follows, Question(FRAME, (), ("or", ()))), 300)

    def test_small_questions(self):
        self.assertLess(calls(follows, NEXT), 1500)
        self.assertLess(calls(Question, FRAME, (AT_MOST[1],), AT_MOST[0]), 100)

    def test_claims_beside_each_other(self):
        self.assertLess(calls(strongest, FRAME, AT_MOST), 6500)
        self.assertEqual(strongest(FRAME, AT_MOST), ((0,),))
        wanted = [(one, other) for one in range(6) for other in range(6) if one < other]
        self.assertEqual(implications(FRAME, AT_MOST), tuple(wanted))

    def test_what_an_asker_is_told(self):
        falling = [("val", "<=", ("x", 0), ("", 39 - number)) for number in range(39)]
        for claims in (falling, falling[::-1]):
            self.assertLess(calls(tell_all, claims), 6000)
            self.assertEqual(tell_all(claims).known, tuple(claims))

    def test_askers_that_were_told_much_answer_as_they_should(self):
        asker = tell_all([("val", "<=", ("x", 0), ("", number)) for number in range(9, 0, -1)])
        self.assertEqual(refusal(Refused, asker.tell, ("val", "<", ("", 1), ("x", 0))).claim[-1][0], "ring")
        self.assertEqual([asker.ask(claim) for claim in (AT_MOST[1], AT_MOST[0], ("val", "<", ("", 1), ("x", 0)))],
                         ["yes", "open", "no"])
        # What has shown that the claims are possible is no answer for others that are told behind undo.
        asker.undo(many=9)
        asker.tell(("val", "<", ("", 1), ("x", 0)))
        self.assertEqual([asker.ask(AT_MOST[1]), asker.ask(("val", "<=", ("", 2), ("x", 0)))], ["no", "yes"])

    def test_both_questions_of_ask_have_to_be_small(self):
        wide = ("and", tuple([("val", "<=", ("a", "i", shift, 0), ("a", "i", shift, 0)) for shift in range(1, 15)]))
        guard = ("and", tuple([("pos", "<=", ("j", shift), ("k", 0)) for shift in range(1, 15)]))
        # Under a not, this all brings members of its guard, which it does not bring as a wanted claim.
        claim = ("all", ("k",), guard, ("val", "<=", ("a", "k", 0, 0), ("x", 0)))
        for asker in (Asker(FRAME), tell_all(AT_MOST)):
            self.assertEqual(refusal(TooMany, asker.ask, wide).limit, 16)
            self.assertEqual(refusal(TooMany, asker.ask, claim).limit, 16)
            self.assertEqual(asker.why(claim)[0], "broken")


if __name__ == "__main__":
    unittest.main()
