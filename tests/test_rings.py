import random
import unittest

from cellsenough.errors import InvalidClaim, InvalidFrame, InvalidOperation, InvalidTerm
from cellsenough.solve.rings import (
    MAX_DIFFERENCES, differences_of, fitting, is_fitting, is_ring, needless, ring, tightest)
from samples import ATOM, BODY, FRAME, GUARD, LONG, TOO_LONG, UPTO, depth_by_nots, not_integers, not_names, refusal

CHAIN = (("i", "", 4), ("j", "i", -2), ("", "j", 1))
CELL = ("a", "i", 0)
POINTS = ["", "i", "abcdefgh", "*1", "*12", CELL, ("a", "", 0), ("a", "*3", -7), ("abcdefgh", "n", LONG)]
NO_POINTS = ["*", "*0", "*01", "**1", "*1a", "* 1", "i1", "I", "a b", "abcdefghi", ("a", "i"), ("a", "i", 0, 0), ("", "i", 0),
             ("*1", "i", 0), ("a", "*0", 0), ("a", "i", True), ("a", "i", None), ("a", "i", TOO_LONG), ("a", CELL, 0),
             ["a", "i", 0], (CELL,), ("a", "1", 0), ("a", None, 0), (None, "i", 0)]


def no_points():
    return NO_POINTS + [value for value in not_names() if value not in ("", "*1")]


def random_differences(seed):
    """Some differences of few points, and one more."""
    told = random.Random(seed)
    points = ["", told.choice(("i", "j")), "*1", CELL][:told.randint(2, 4)]
    many = told.randint(1, 7)
    return tuple([(told.choice(points), told.choice(points), told.randint(-2, 2)) for _ in range(many)])


def numbers_by_hand(differences, low=-6, high=6):
    """All integers from low to high that fit, with 0 for ""."""
    points = sorted({point for one, other, _ in differences for point in (one, other)} - {""}, key=repr)
    found = [{"": 0}]
    for point in points:
        found = [{**numbers, point: number} for numbers in found for number in range(low, high + 1)]
        found = [numbers for numbers in found
                 if all(numbers[one] - numbers[other] <= number for one, other, number in differences
                        if one in numbers and other in numbers)]
    return [] if any((one, other) == ("", "") and number < 0 for one, other, number in differences) else found


class Fitting(unittest.TestCase):
    def test_by_hand(self):
        told = {True: 0, False: 0}
        for seed in range(400):
            differences = random_differences(seed)
            is_there = len(numbers_by_hand(differences)) > 0
            told[is_there] += 1
            with self.subTest(seed):
                numbers, found = fitting(differences), ring(differences)
                self.assertEqual([numbers is not None, found is None], [is_there, is_there])
                if is_there:
                    self.assertIs(is_fitting(differences, numbers), True)
                    self.assertEqual(numbers[""], 0)
                    self.assertTrue(all(numbers[one] - numbers[other] <= number for one, other, number in differences))
                else:
                    self.assertIs(is_ring(differences, found), True)
        self.assertGreater(min(told.values()), 50)

    def test_keys(self):
        differences = ((("b", "", 1), "j", 0), ("i", ("a", "n", 2), 0), ("*2", ("a", "n", -1), 0), ("*10", "i", 0),
                       (("a", "*1", 0), "i", 5))
        keys = ["", "*10", "*2", "i", "j", ("a", "*1", 0), ("a", "n", -1), ("a", "n", 2), ("b", "", 1)]
        self.assertEqual(list(fitting(differences)), keys)
        self.assertEqual(fitting(()), {"": 0})
        self.assertEqual(fitting((("", "", 0),)), {"": 0})
        self.assertIsNone(fitting((("", "", -1),)))
        self.assertEqual(list(fitting((("i", "i", 0),))), ["", "i"])

    def test_what_is_told_can_be_changed(self):
        told = fitting(CHAIN)
        told.clear()
        self.assertIs(is_fitting(CHAIN, fitting(CHAIN)), True)

    def test_is_fitting(self):
        right = {"": 0, "i": 4, "j": 2}
        self.assertIs(is_fitting(CHAIN, right), True)
        self.assertIs(is_fitting(CHAIN, {"j": 2, "i": 3, "": 0}), False)
        self.assertIs(is_fitting(CHAIN, {"j": -1, "i": 3, "": 0}), True)
        wrong = [{"": 0, "i": 4, "j": 3}, {"": 0, "i": 5, "j": 3}, {"": 0, "i": -9, "j": -11}, {"": 1, "i": 5, "j": 3},
                 {"i": 4, "j": 2}, {"": 0, "i": 4}, {**right, "k": 0}, {"": 0, "i": True, "j": -1}, {"": False, "i": 4, "j": 2},
                 {"": 0, "i": 4, ("j",): 2}, [("", 0), ("i", 4), ("j", 2)], (right,), {"": 0, "i": 4, "j": None},
                 {"": 0, "i": 4, True: 2}, {"": 0, "i": 4, "k": 2}, {"": 0, "i": 4, CELL: 2}, {"k": 0, "i": 4, "j": 2}]
        for value in [*wrong, *not_names()]:
            with self.subTest(repr(value)[:60]):
                self.assertIs(is_fitting(CHAIN, value), False)
        self.assertIs(is_fitting((), {"": 0}), True)
        for value in ({}, {"": 0, "i": 0}, None, {"": None}):
            self.assertIs(is_fitting((), value), False)

    def test_true_is_not_1_in_a_key(self):
        differences = ((("a", "i", 1), "", 3),)
        self.assertIs(is_fitting(differences, {"": 0, ("a", "i", 1): 3}), True)
        self.assertIs(is_fitting(differences, {"": 0, ("a", "i", True): 3}), False)

    def test_sixty_digits(self):
        far = (("i", "", -LONG), ("", "j", -LONG))
        self.assertIs(is_fitting(far, fitting(far)), True)
        self.assertIs(is_fitting(far, {"": 0, "i": -LONG, "j": LONG}), True)
        self.assertIs(is_fitting(far, {"": 0, "i": -LONG - 1, "j": LONG}), False)
        # Numbers with less than sixty digits are told where there are some.
        sparse = (("i", "j", LONG), ("j", "", LONG), ("k", "i", -LONG), ("", "k", 5), ("i", "k", LONG))
        self.assertIs(is_fitting(sparse, fitting(sparse)), True)
        for more in (-LONG, -3, 0, LONG):
            differences = (("i", "j", LONG), ("l", "i", more), ("", "l", LONG), ("i", "", LONG), ("j", "i", -LONG))
            self.assertIs(is_fitting(differences, fitting(differences)), True)
        # Only these numbers have no more than sixty digits.
        told = fitting((("k", "l", -LONG), ("m", "k", -LONG)))
        self.assertEqual(told, {"": 0, "k": 0, "l": LONG, "m": -LONG})
        told = fitting((("k", "l", -LONG), ("m", "k", 1 - LONG)))
        self.assertIs(is_fitting((("k", "l", -LONG), ("m", "k", 1 - LONG)), told), True)
        # There are integers, but none of at most sixty digits.
        beyond = (("i", "", -LONG), ("j", "i", -LONG))
        self.assertIsNone(ring(beyond))
        told = fitting(beyond)
        self.assertTrue(all(told[one] - told[other] <= number for one, other, number in beyond))
        self.assertIs(is_fitting(beyond, told), False)


class Rings(unittest.TestCase):
    def test_is_ring(self):
        turned = CHAIN + (("i", "j", 1),)
        for value, answer in [((3, 1), True), ((1, 3), True), ((1, 3, 1, 3), True), ((0, 2, 1), False), ((3,), False),
                              ((), False), ((1, 3, 1), False), ((0, 2, 1, 3), False), ((3, 1, 3), False), ([3, 1], False)]:
            with self.subTest(value):
                self.assertIs(is_ring(turned, value), answer)
        self.assertIs(is_ring((("i", "i", -1),), (0,)), True)
        self.assertIs(is_ring((("i", "i", -1),), (0, 0, 0)), True)
        self.assertIs(is_ring((("i", "i", 0),), (0,)), False)
        self.assertIs(is_ring((("i", "j", 1), ("j", "i", -1)), (0, 1)), False)
        around = (("i", "j", 1), ("j", "k", -3), ("k", "i", 1))
        for value, answer in [((0, 1, 2), True), ((1, 2, 0), True), ((2, 0, 1), True), ((2, 1, 0), False), ((0, 1), False)]:
            self.assertIs(is_ring(around, value), answer)

    def test_no_rings(self):
        turned = (("i", "j", -1), ("j", "i", 0))
        self.assertIs(is_ring(turned, (0, 1)), True)
        for value in [*not_names(), (0, 2), (0, -1), (False, True), (0, True), (0.0, 1), "01", {0: 1}, ((0, 1),), (0, None)]:
            with self.subTest(repr(value)[:60]):
                self.assertIs(is_ring(turned, value), False)

    def test_long_rings(self):
        points = [""] + [one + other for one in "abcdefgh" for other in "abcdefgh"]
        for last, is_there in ((-60, True), (-59, False)):
            differences = tuple([(points[at], points[at + 1], 1) for at in range(59)] + [(points[59], "", last)])
            self.assertEqual(len(differences), 60)
            self.assertIs(ring(differences) is not None, is_there)
            self.assertIs(fitting(differences) is None, is_there)
            if is_there:
                self.assertIs(is_ring(differences, ring(differences)), True)
                self.assertEqual(sorted(ring(differences)), list(range(60)))
            else:
                self.assertIs(is_fitting(differences, fitting(differences)), True)


class Tightest(unittest.TestCase):
    def test_by_hand(self):
        for seed in range(300):
            differences = random_differences(seed)
            if ring(differences) is not None:
                refusal(InvalidOperation, tightest, differences, "i", "")
                self.assertEqual(needless(differences), self.needless_by_hand(differences))
                continue
            with self.subTest(seed):
                points = {point for one, other, _ in differences for point in (one, other)}
                for one in points:
                    for other in points:
                        bound = tightest(differences, one, other)
                        # It is the bound exactly if this number fits and the next one does not.
                        if bound is None:
                            self.assertIsNone(ring(differences + ((other, one, -1000),)))
                        else:
                            self.assertIsNone(ring(differences + ((other, one, -bound),)))
                            self.assertIsNotNone(ring(differences + ((other, one, -bound - 1),)))
                self.assertEqual(needless(differences), self.needless_by_hand(differences))

    def needless_by_hand(self, differences):
        found = []
        for at, (one, other, number) in enumerate(differences):
            others = differences[:at] + differences[at + 1:]
            if ring(others + ((other, one, -number - 1),)) is not None:
                found.append(at)
        return tuple(found)

    def test_points_that_stand_nowhere(self):
        self.assertEqual([tightest(CHAIN, point, point) for point in POINTS], [0] * len(POINTS))
        self.assertEqual([tightest(CHAIN, "k", "i"), tightest(CHAIN, "i", CELL), tightest((), "", "i")], [None] * 3)
        self.assertEqual([tightest(CHAIN, "j", "i"), tightest(CHAIN, "i", "j")], [-2, 5])

    def test_needless(self):
        self.assertEqual(needless(()), ())
        self.assertEqual(needless((("i", "j", 1), ("i", "j", 1))), (0, 1))
        self.assertEqual(needless((("i", "j", 1), ("i", "j", 2), ("j", "j", 0))), (1, 2))
        self.assertEqual(needless((("i", "i", -1), ("j", "i", 1))), (1,))
        self.assertEqual(needless((("i", "i", -1), ("j", "j", -1), ("k", "", 0))), (0, 1, 2))

    def test_sixty(self):
        points = ["p" + letter for letter in "abcdefghijklmnopqrstuvwxyz"] + list("abcdefghijklmnopqrstuvwxyz")
        differences = tuple([(points[at % 30], points[at * 7 % 30], 5) for at in range(60)])
        self.assertEqual(needless(differences), self.needless_by_hand(differences))


class Wrong(unittest.TestCase):
    def test_differences(self):
        wrong = [[], [("i", "j", 0)], (("i", "j"),), (("i", "j", 0, 0),), (["i", "j", 0],), ("i", "j", 0), (("i", "j", None),),
                 (("i", "j", True),), (("i", "j", TOO_LONG),), (("i", "j", "0"),), (None,), (("i", "j", 0), ())]
        wrong.extend([((point, "j", 0),) for point in NO_POINTS] + [(("i", point, 0),) for point in NO_POINTS])
        for value in [*wrong, *not_names()]:
            if value == ():
                continue
            with self.subTest(repr(value)[:60]):
                refusal(InvalidOperation, fitting, value)
                refusal(InvalidOperation, ring, value)
                refusal(InvalidOperation, needless, value)
                refusal(InvalidOperation, is_fitting, value, None)
                refusal(InvalidOperation, is_ring, value, None)
                refusal(InvalidOperation, tightest, value, None, None)
        self.assertEqual(MAX_DIFFERENCES, 60)
        for call in (fitting, ring, needless):
            call((("i", "j", 0),) * 60)
            refusal(InvalidOperation, call, (("i", "j", 0),) * 61)

    def test_points(self):
        for point in POINTS:
            self.assertEqual(tightest(((point, "", 3), ("", "j", 2)), point, "j"), 5 if point != "" else 2)
        for value in no_points():
            with self.subTest(repr(value)[:60]):
                refusal(InvalidTerm, tightest, CHAIN, value, None)
                refusal(InvalidTerm, tightest, CHAIN, value, "i")
                refusal(InvalidTerm, tightest, CHAIN, "i", value)
                refusal(InvalidTerm, tightest, (("i", "i", -1),), "i", value)
        refusal(InvalidOperation, tightest, (("i", "i", -1),), "i", "i")


class OfClaims(unittest.TestCase):
    def test_atoms(self):
        cases = [
            (("pos", "<=", ("i", 1), ("j", 3)), (("i", "j", 2),)), (("pos", "<", ("i", 1), ("", 3)), (("i", "", 1),)),
            (("pos", "==", ("n", 1), ("j", 3)), (("n", "j", 2), ("j", "n", -2))),
            (("val", "<=", ("a", "i", 2, 1), ("x", 0)), ((("a", "i", 2), "x", -1),)),
            (("val", "==", ("a", "", -2, 1), ("a", "n", 0, 5)), ((("a", "", -2), ("a", "n", 0), 4), (("a", "n", 0), ("a", "", -2), -4))),
            (("not", ("pos", "<=", ("i", 1), ("j", 3))), (("j", "i", -3),)),
            (("not", ("val", "<", ("x", 1), ("", 3))), (("", "x", -2),)),
            (("val", "<", ("", 0), ("", 0)), (("", "", -1),)),
        ]
        for claim, differences in cases:
            with self.subTest(claim):
                self.assertEqual(differences_of(FRAME, claim), differences)
        self.assertEqual(differences_of(FRAME, ("pos", "<", ("i", LONG), ("j", -LONG))), (("i", "j", -2 * LONG - 1),))

    def test_other_claims(self):
        for claim in (("and", ()), ("or", (ATOM,)), UPTO, ("not", UPTO), ("not", ("not", ATOM)), ("not", ("and", (ATOM,))),
                      ("not", ("pos", "==", ("i", 0), ("j", 0))), ("not", ("val", "==", ("x", 0), ("", 0)))):
            with self.subTest(claim):
                refusal(InvalidOperation, differences_of, FRAME, claim)

    def test_wrong(self):
        for value in not_names():
            with self.subTest(repr(value)[:60]):
                if value is not FRAME:
                    refusal(InvalidFrame, differences_of, value, ATOM)
                    refusal(InvalidFrame, differences_of, value, None)
                if value != ("and", ()):
                    refusal(InvalidClaim, differences_of, FRAME, value)
        for value in (GUARD, BODY, depth_by_nots(13), ("pos", "<=", ("i", True), ("j", 0)), ["pos"], *not_integers()[:3]):
            refusal(InvalidClaim, differences_of, FRAME, value)


if __name__ == "__main__":
    unittest.main()
