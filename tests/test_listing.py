import itertools
import unittest

from cellsenough.base.frames import Frame
from cellsenough.errors import InvalidClaim, InvalidFrame, InvalidNumber, TooMany
from cellsenough.logic.claims import all_between, in_order
from cellsenough.world.listing import (
    MAX_LISTED, count_situations, count_with, first_breaking, first_with, listed, situations)
from cellsenough.world.situations import Situation
from samples import ATOM, BODY, FRAME, GUARD, LONG, UPTO, depth_by_nots, not_integers, not_names, refusal

EMPTY = Frame((), (), ())
# Two arrays share a length, and stand in another order than their lengths do.
MIXED = Frame((("c", "m"), ("a", "n"), ("b", "m")), ("j", "i"), ("y",))
SPANS = [(cells, low, high) for cells in (0, 1, 2) for low, high in ((0, 0), (0, 1), (-1, 0), (-1, 1))]


def drained(generator):
    return [situation for situation in generator]


def by_hand(frame, cells, low, high):
    """All situations of a span, sorted by the words of the document."""
    found = []
    amounts = range(low, high + 1)
    for lengths in itertools.product(range(cells + 1), repeat=len(frame.lengths)):
        many = dict(zip(frame.lengths, lengths))
        rows_of = [list(itertools.product(amounts, repeat=many[length])) for _, length in frame.arrays]
        for places in itertools.product(range(-1, cells + 1), repeat=len(frame.positions)):
            for values in itertools.product(amounts, repeat=len(frame.amounts)):
                for rows in itertools.product(*rows_of):
                    found.append((lengths, places, values, rows))
    return sorted(found)


def parts(frame, situation):
    return (tuple([situation.lengths[length] for length in frame.lengths]),
            tuple([situation.positions[name] for name in frame.positions]),
            tuple([situation.amounts[name] for name in frame.amounts]),
            tuple([situation.rows[array] for array, _ in frame.arrays]))


class Spans(unittest.TestCase):
    def test_all_in_order(self):
        frames = [EMPTY, FRAME, Frame((), ("i",), ("x", "y")), Frame((("a", "n"), ("b", "m")), (), ("x",)),
                  Frame((("b", "n"), ("a", "n")), ("i",), ())]
        for frame in frames:
            for span in SPANS:
                with self.subTest(frame=str(frame), span=span):
                    told = drained(situations(frame, *span))
                    self.assertEqual([parts(frame, situation) for situation in told], by_hand(frame, *span))
                    self.assertEqual(count_situations(frame, *span), len(told))
                    self.assertTrue(all(situation.frame == frame for situation in told))

    def test_lengths_in_their_order_in_the_frame(self):
        for span in ((1, 0, 1), (1, -1, 0), (2, 3, 3)):
            told = drained(situations(MIXED, *span))
            self.assertEqual([parts(MIXED, situation) for situation in told], by_hand(MIXED, *span))
            for index in range(len(told)):
                self.assertEqual(listed(MIXED, *span, index), told[index])

    def test_listed_is_the_same(self):
        for frame in (EMPTY, FRAME, Frame((("a", "n"), ("b", "m")), (), ("x",)), Frame((("b", "n"), ("a", "n")), ("i",), ())):
            for span in SPANS:
                for index, situation in enumerate(situations(frame, *span)):
                    if index % 7 < 2:
                        self.assertEqual(listed(frame, *span, index), situation)

    def test_spans_of_no_cells(self):
        self.assertEqual([str(one) for one in situations(FRAME, 0, 2, 2)],
                         ["a=- | i=-1 j=-1 | x=2", "a=- | i=-1 j=0 | x=2", "a=- | i=0 j=-1 | x=2", "a=- | i=0 j=0 | x=2"])
        self.assertEqual([count_situations(EMPTY, 0, 0, 0), str(listed(EMPTY, 4, -9, 9, 0))], [1, "- | - | -"])

    def test_spans_of_four_cells(self):
        frame = Frame((("a", "n"),), ("i",), ())
        self.assertEqual(count_situations(frame, 4, 0, 1), 31 * 6)
        self.assertEqual(count_situations(frame, 4, -9, 9), 6 * (1 + 19 + 19 ** 2 + 19 ** 3 + 19 ** 4))
        told = drained(situations(frame, 4, 0, 1))
        self.assertEqual([str(told[0]), str(told[-1])], ["a=- | i=-1 | -", "a=1 1 1 1 | i=4 | -"])

    def test_each_is_made_when_asked_for(self):
        wide = Frame(tuple([(name, name + "n") for name in "abcdefghijkl"]), tuple("opqrst"), tuple("uvwxyz"))
        many = 6 ** 6 * 19 ** 6 * sum([19 ** cells for cells in range(5)]) ** 12
        self.assertEqual(count_situations(wide, 4, -9, 9), many)
        told = situations(wide, 4, -9, 9)
        first = [next(told) for _ in range(3)]
        self.assertEqual([parts(wide, one)[2] for one in first], [(-9,) * 5 + (last,) for last in (-9, -8, -7)])
        self.assertEqual([listed(wide, 4, -9, 9, index) for index in range(3)], first)

    def test_the_last_of_very_many(self):
        frame = Frame(tuple([(name, name + "n") for name in "abcdefg"]), ("o", "p"), ("u",))
        many = count_situations(frame, 4, -9, 9)
        self.assertLess(many, 10 ** 60)
        last = listed(frame, 4, -9, 9, many - 1)
        self.assertEqual([last.lengths["an"], last.positions, last.amounts], [4, {"o": 4, "p": 4}, {"u": 9}])
        self.assertEqual(last.rows, dict.fromkeys("abcdefg", (9, 9, 9, 9)))
        refusal(InvalidNumber, listed, frame, 4, -9, 9, many)

    def test_nothing_is_shared(self):
        told = listed(FRAME, 2, 0, 1, 100)
        told.rows.clear()
        told.positions.clear()
        self.assertEqual(told, listed(FRAME, 2, 0, 1, 100))
        one, other = itertools.islice(situations(FRAME, 2, 0, 1), 100, 102)
        self.assertEqual([one, other], [listed(FRAME, 2, 0, 1, 100), listed(FRAME, 2, 0, 1, 101)])


class Wrong(unittest.TestCase):
    def calls(self):
        def generated(*arguments):
            return next(situations(*arguments))

        def of_claims(call):
            return lambda frame, cells, low, high: call(frame, (), cells, low, high)

        return [generated, count_situations, lambda *span: listed(*span, 0), of_claims(first_with), of_claims(count_with),
                lambda frame, *span: first_breaking(frame, (), ATOM if frame is FRAME else None, *span)]

    def test_spans(self):
        for call in self.calls():
            for value in not_names():
                with self.subTest(call=call, value=repr(value)[:40]):
                    if value is not FRAME:
                        refusal(InvalidFrame, call, value, None, None, None)
                    if value not in (0, 1) or isinstance(value, bool):
                        self.assertEqual(refusal(InvalidNumber, call, FRAME, value, None, None).given, value)
                        self.assertEqual(refusal(InvalidNumber, call, FRAME, 0, value if value != -1 else 10, None).given,
                                         value if value != -1 else 10)
                        self.assertEqual(refusal(InvalidNumber, call, FRAME, 0, 0, value).given, value)
            for span, wrong in (((5, 0, 0), 5), ((-1, 0, 0), -1), ((0, -10, 0), -10), ((0, 10, 10), 10), ((0, 0, 10), 10),
                                ((0, 3, 2), 2), ((0, -9, -10), -10), ((5, -10, 10), 5), ((4, -10, 10), -10)):
                self.assertEqual(refusal(InvalidNumber, call, FRAME, *span).given, wrong)
            for span in ((0, -9, -9), (0, 9, 9), (0, -9, -8), (1, 8, 9)):
                call(FRAME, *span)

    def test_a_generator_raises_when_it_is_asked(self):
        wrong = situations(None, None, None, None)
        refusal(InvalidFrame, next, wrong)
        refusal(InvalidNumber, next, situations(FRAME, 5, 0, 0))

    def test_index(self):
        for value in (*not_integers(), -1, 224, 225, LONG, -LONG):
            with self.subTest(repr(value)[:40]):
                self.assertEqual(refusal(InvalidNumber, listed, FRAME, 2, 0, 1, value).given, value)
        self.assertIs(refusal(InvalidNumber, listed, FRAME, 2, 0, 1, True).given, True)
        self.assertEqual(refusal(InvalidNumber, listed, FRAME, 2, 0, 10, None).given, 10)
        self.assertEqual(str(listed(FRAME, 2, 0, 1, 223)), "a=1 1 | i=2 j=2 | x=1")

    def test_frame_ahead_of_claims(self):
        for value in not_names():
            if value is not FRAME:
                refusal(InvalidFrame, first_with, value, None, None, None, None)
                refusal(InvalidFrame, count_with, value, (ATOM,), 0, 0, 0)
                refusal(InvalidFrame, first_with, value, (ATOM,), 0, 0, 0)
                refusal(InvalidFrame, first_breaking, value, (ATOM,), ATOM, 0, 0, 0)

    def test_claims(self):
        for value in [*not_names(), [ATOM], (ATOM, None), (GUARD,), ((BODY,),), ATOM, (depth_by_nots(13),), ("and", ())]:
            if value == ():
                continue
            with self.subTest(repr(value)[:40]):
                refusal(InvalidClaim, first_with, FRAME, value, 0, 0, 0)
                refusal(InvalidClaim, first_with, FRAME, value, None, None, None)
                refusal(InvalidClaim, count_with, FRAME, value, 0, 0, 0)
                refusal(InvalidClaim, first_breaking, FRAME, value, ATOM, 0, 0, 0)
                refusal(InvalidClaim, first_breaking, FRAME, value, None, None, None, None)
                if value not in (("and", ()), ATOM):
                    refusal(InvalidClaim, first_breaking, FRAME, (ATOM,), value, None, None, None)


class Found(unittest.TestCase):
    def test_first_and_count(self):
        frame = Frame((("a", "n"), ("b", "n")), ("i",), ("x",))
        upto = all_between(frame, ("", 0), ("i", 0), "<=", ("a", "k", 0, 0), ("x", 0))
        order = in_order(frame, "b", ("", 0), ("n", -1))
        less = ("val", "<", ("a", "i", 0, 0), ("b", "i", 0, 0))
        for claims in ((), (upto,), (order,), (upto, order), (upto, order, less), (less, ("not", upto)), (("or", ()),),
                       (("pos", "<", ("i", 0), ("n", 0)), less, less)):
            told = [one for one in situations(frame, 2, 0, 1) if all(one.holds(claim) for claim in claims)]
            with self.subTest(claims):
                self.assertEqual(count_with(frame, claims, 2, 0, 1), len(told))
                self.assertEqual(first_with(frame, claims, 2, 0, 1), told[0] if told else None)

    def test_first_breaking(self):
        order = in_order(FRAME, "a", ("", 0), ("n", -1))
        for given, wanted in (((), UPTO), ((UPTO,), order), ((order,), UPTO), ((order, UPTO), UPTO), ((), ("and", ())),
                              ((("or", ()),), ("or", ())), ((("not", order), UPTO), ATOM), ((), ("or", ()))):
            told = [one for one in situations(FRAME, 2, -1, 1)
                    if all(one.holds(claim) for claim in given) and not one.holds(wanted)]
            with self.subTest(given=given, wanted=wanted):
                self.assertEqual(first_breaking(FRAME, given, wanted, 2, -1, 1), told[0] if told else None)

    def test_spans_need_not_have_one(self):
        # Only an array of more than four cells breaks it.
        long = ("pos", "<=", ("n", 0), ("", 4))
        self.assertIsNone(first_breaking(FRAME, (), long, 4, 0, 0))
        self.assertIsNone(first_breaking(FRAME, (), ("pos", "<=", ("", -1), ("i", 0)), 4, 0, 0))

    def test_200000_situations(self):
        self.assertEqual(MAX_LISTED, 200000)
        frame = Frame((), ("i",), tuple("uvwxy"))
        self.assertEqual(count_situations(frame, 0, 0, 9), 200000)
        claim = ("and", tuple([("val", "==", (name, 0), ("", 9)) for name in "uvwxy"]))
        self.assertEqual(count_with(frame, (claim,), 0, 0, 9), 2)
        self.assertEqual(str(first_with(frame, (claim, ("pos", "==", ("i", 0), ("", 0))), 0, 0, 9)),
                         "- | i=0 | u=9 v=9 w=9 x=9 y=9")
        self.assertIsNone(first_breaking(frame, (claim,), claim, 0, 0, 9))

    def test_more_than_200000_situations(self):
        for frame, span, many in ((Frame((), ("i",), tuple("uvwxy")), (1, 0, 9), 300000),
                                  (Frame((), (), tuple("uvwxy")), (0, -2, 9), 248832),
                                  (Frame((("a", "n"), ("b", "n")), ("i",), ("x",)), (4, 0, 4), 6 * 5 * 406901)):
            self.assertEqual(count_situations(frame, *span), many)
            for call in (first_with, count_with):
                self.assertEqual(refusal(TooMany, call, frame, (), *span).limit, 200000)
                refusal(InvalidClaim, call, frame, (None,), *span)
                self.assertEqual(refusal(InvalidNumber, call, frame, (), *span[:2], 10).given, 10)
            self.assertEqual(refusal(TooMany, first_breaking, frame, (), ("and", ()), *span).limit, 200000)
            refusal(InvalidClaim, first_breaking, frame, (), None, *span)
        frame = Frame((), (), tuple("uvwxy"))
        self.assertEqual(count_with(frame, (("or", ()),), 0, -2, 8), 0)

    def test_arguments_stay_as_they_were(self):
        claims = (UPTO, ATOM)
        first_with(FRAME, claims, 1, 0, 1)
        self.assertEqual(claims, (UPTO, ATOM))
        self.assertEqual(first_with(FRAME, claims, 1, 0, 1), first_with(FRAME, claims, 1, 0, 1))
        found = first_with(FRAME, claims, 1, 0, 1)
        found.rows.clear()
        self.assertIsInstance(first_with(FRAME, claims, 1, 0, 1), Situation)


if __name__ == "__main__":
    unittest.main()
