import itertools
import random
import time
import unittest

from cellsenough.base.frames import Frame
from cellsenough.errors import InvalidClaim, InvalidOperation
from cellsenough.logic.claims import all_between, in_order, is_claim, plain_claim, replaced, renamed_claim, used_at
from cellsenough.world.situations import Situation
from samples import ATOM, BODY, FRAME, GUARD, SHOWN, UPTO, depth_by_ands, depth_by_nots, not_names, refusal

I, J, K, L, X = ("i", 0), ("j", 0), ("k", 0), ("l", 0), ("x", 0)
CELL = ("a", "k", 0, 0)
PAIR = Frame((("a", "n"), ("b", "m")), ("i", "j"), ("x",))


def shown(*row, i=0, j=0, x=0):
    return Situation(FRAME, {"a": row}, {"i": i, "j": j}, {"x": x})


def number(situation, own, term):
    """The integer of a term, by the words of the document."""
    names = {"": 0, **situation.positions, **situation.lengths, **situation.amounts, **own}
    if len(term) == 2:
        return names[term[0]] + term[1]
    row = situation.rows[term[0]]
    return dict(enumerate(row)).get(names[term[1]] + term[2], 0) + term[3]


def terms_without(own, guard):
    if guard[0] == "pos":
        return [term for term in guard[2:] if term[0] not in own]
    return [term for part in guard[1] for term in terms_without(own, part)]


def failures(situation, claim):
    """All tuples of integers among those of [0.12] for which an all is false, by looking at each, ascending."""
    _, own, guard, body = claim
    ends = [-1, *situation.lengths.values(), *[number(situation, {}, term) for term in terms_without(own, guard)]]
    for chosen in itertools.product(range(min(ends), max(ends) + 1), repeat=len(own)):
        places = dict(zip(own, chosen))
        if true(situation, guard, places) and not true(situation, body, places):
            yield chosen


def true(situation, claim, own={}):
    """Whether a claim is true, by the words of the document."""
    if claim[0] == "not":
        return not true(situation, claim[1], own)
    if claim[0] == "and":
        return all(true(situation, part, own) for part in claim[1])
    if claim[0] == "or":
        return any(true(situation, part, own) for part in claim[1])
    if claim[0] == "all":
        return next(failures(situation, claim), None) is None
    one, other = number(situation, own, claim[2]), number(situation, own, claim[3])
    return {"<=": one <= other, "<": one < other, "==": one == other}[claim[1]]


class Maker:
    """Claims and situations for PAIR, the same ones for the same seed."""

    def __init__(self, seed):
        self.random = random.Random(seed)

    def place(self):
        return (self.random.choice(("i", "j", "n", "m", "")), self.random.randint(-3, 3))

    def amount(self, own):
        kind = self.random.randrange(6)
        if kind == 0:
            return ("x", self.random.randint(-1, 1))
        if kind == 1:
            return ("", self.random.randint(-1, 2))
        place = self.place() if kind == 2 or not own else (self.random.choice(own), 0)
        return (self.random.choice("ab"), *place, self.random.randint(-1, 1))

    def guard(self, own, depth):
        if depth > 0 and self.random.randrange(3):
            parts = tuple([self.guard(own, depth - 1) for _ in range(self.random.randrange(4))])
            return (self.random.choice(("and", "and", "or")), parts)
        terms = [(self.random.choice(own), 0), self.random.choice((self.place(), (self.random.choice(own), 0)))]
        self.random.shuffle(terms)
        return ("pos", self.random.choice(("<=", "<=", "==")), *terms)

    def body(self, own, depth):
        kind = self.random.randrange(5) if depth > 0 else 0
        if kind < 3:
            return ("val", self.random.choice(("<=", "<", "==")), self.amount(own), self.amount(own))
        if kind == 3:
            return ("not", self.body(own, depth - 1))
        return (self.random.choice(("and", "or")), tuple([self.body(own, depth - 1) for _ in range(2)]))

    def whole(self):
        own = self.random.choice((("k",), ("k", "l"), ("l", "k")))
        return ("all", own, self.guard(own, 2), self.body(own, 2))

    def claim(self, depth):
        kind = self.random.randrange(7) if depth > 0 else self.random.randrange(2)
        if kind == 0:
            return ("pos", self.random.choice(("<=", "<", "==")), self.place(), self.place())
        if kind == 1:
            return ("val", self.random.choice(("<=", "<", "==")), self.amount(()), self.amount(()))
        if kind < 4:
            return self.whole()
        if kind == 4:
            return ("not", self.claim(depth - 1))
        parts = tuple([self.claim(depth - 1) for _ in range(self.random.randrange(4))])
        return (("and", "or")[kind - 5], parts)

    def situation(self):
        rows = {name: tuple([self.random.randint(-1, 2) for _ in range(self.random.randrange(5))]) for name in "ab"}
        positions = {name: self.random.randint(-5, 8) for name in "ij"}
        return Situation(PAIR, rows, positions, {"x": self.random.randint(-1, 2)})


class ByHand(unittest.TestCase):
    def test_atoms(self):
        for op, answers in (("<=", [True, True, False]), ("<", [True, False, False]), ("==", [False, True, False])):
            for more, answer in zip((-1, 0, 1), answers):
                self.assertIs(SHOWN.holds(("pos", op, ("i", more), ("", 1))), answer)
                self.assertIs(SHOWN.holds(("val", op, ("x", more), ("a", "i", -1, 1))), answer)
                self.assertIs(SHOWN.holds(("pos", op, ("n", more), ("j", 1))), answer)

    def test_nots_ands_ors(self):
        yes, no = ("pos", "<", I, J), ("pos", "<", J, I)
        for claim, answer in [
            (("and", ()), True), (("or", ()), False), (("not", yes), False), (("not", no), True),
            (("and", (yes, yes)), True), (("and", (yes, no)), False), (("and", (no, yes)), False),
            (("or", (no, no)), False), (("or", (yes, no)), True), (("or", (no, yes)), True), (("not", ("or", ())), True),
            (depth_by_nots(12), False), (("and", (("or", (no, yes)), ("not", ("and", (no,))))), True),
        ]:
            with self.subTest(claim):
                self.assertIs(SHOWN.holds(claim), answer)

    def test_an_all_without_a_guard_also_reads_outside(self):
        least = ("all", ("k",), ("and", ()), ("val", "<=", CELL, X))
        self.assertIs(shown(-3, -2, x=-1).holds(least), False)
        self.assertEqual(shown(-3, -2, x=-1).failure(least), (-1,))
        self.assertIs(shown(-3, -2, x=0).holds(least), True)
        self.assertIs(shown(-3, -2, x=-1).holds(all_between(FRAME, ("", 0), ("n", -1), "<=", CELL, X)), True)
        # Every position from -1 to the length counts; behind both, all cells read 0 as well.
        self.assertEqual(shown(5, 5).failure(("all", ("k",), ("and", ()), ("val", "==", CELL, ("", 0)))), (0,))
        self.assertEqual(shown(5, 5).failure(("all", ("k",), ("and", ()), ("val", "==", CELL, ("", 5)))), (-1,))

    def test_cells_at_minus_one_and_at_the_length(self):
        for end, is_false in ((-2, True), (-1, True), (0, False), (1, False), (2, True), (3, True)):
            claim = ("all", ("k",), ("pos", "==", K, ("", end)), ("val", "==", CELL, ("", 5)))
            self.assertEqual(shown(5, 5).failure(claim), (end,) if is_false else None)
        lower = ("all", ("k",), ("pos", "<=", ("", 1), K), ("val", "==", CELL, ("", 5)))
        self.assertEqual(shown(5, 5).failure(lower), (2,))

    def test_all_arrays_count(self):
        situation = Situation(PAIR, {"a": (9,), "b": (9, 0, 8)}, {"i": 0, "j": 0}, {"x": 0})
        for array, more, place in (("a", 0, 1), ("b", 0, 1), ("a", 9, None), ("b", 9, None), ("b", 8, 2)):
            claim = ("all", ("k",), ("pos", "<=", ("", 0), K), ("or", (
                ("val", "==", (array, "k", 0, 0), ("", 9)), ("val", "<", (array, "k", 0, 0), ("", more)))))
            self.assertEqual(situation.failure(claim), place if place is None else (place,))
        both = ("all", ("k", "l"), ("pos", "<=", ("", 0), K), ("val", "<=", ("b", "k", 0, 0), ("a", "l", 0, 8)))
        self.assertEqual(situation.failure(both), (0, -1))
        self.assertEqual(situation.with_cell("b", 0, 8).failure(both), None)

    def test_no_place_beyond_the_told_ones(self):
        # Without arrays, -1 alone is left where the guard has no terms.
        empty = Situation(Frame((), (), ()), {}, {}, {})
        self.assertEqual(empty.failure(("all", ("k",), ("and", ()), ("or", ()))), (-1,))
        self.assertEqual(empty.failure(("all", ("k", "l"), ("pos", "<=", K, L), ("or", ()))), (-1, -1))
        self.assertEqual(empty.failure(("all", ("k",), ("or", ()), ("or", ()))), None)
        self.assertIs(empty.holds(("all", ("k",), ("or", ()), ("or", ()))), True)

    def test_first_of_two(self):
        claim = in_order(FRAME, "a", ("", 0), ("n", -1))
        self.assertEqual(shown(1, 2, 3).failure(claim), None)
        self.assertEqual(shown(1, 3, 2, 1, 0).failure(claim), (0, 4))
        self.assertEqual(shown(1, 3, 4, 2, 2).failure(claim), (1, 3))
        turned = ("all", ("l", "k"), *claim[2:])
        same = ("all", ("k", "l"), ("pos", "==", K, L), ("val", "<", CELL, ("a", "l", 0, 1)))
        self.assertIs(is_claim(FRAME, turned), False)
        self.assertEqual(shown(1, 3).failure(same), None)
        self.assertEqual(shown(1, 3).failure(("all", ("l", "k"), ("pos", "<=", K, L), ("val", "<=", CELL, ("a", "l", 0, 0)))),
                         (2, 0))

    def test_guards_that_let_positions_outside(self):
        claim = all_between(FRAME, ("i", 0), ("j", 0), "==", CELL, ("", 7))
        self.assertEqual(shown(7, 7, i=-4, j=6).failure(claim), (-4,))
        self.assertEqual(shown(7, 7, i=0, j=6).failure(claim), (2,))
        self.assertEqual(shown(7, 7, i=4, j=6).failure(claim), (4,))
        self.assertEqual(shown(7, 7, i=6, j=4).failure(claim), None)
        apart = ("all", ("k",), ("or", (("pos", "<=", K, ("", -9)), ("pos", "<=", ("", 9), K))), ("val", "<", CELL, X))
        self.assertEqual(shown(7, 7).failure(apart), (-9,))

    def test_errors_in_order(self):
        for value in not_names():
            with self.subTest(repr(value)[:40]):
                if value != ("and", ()):
                    refusal(InvalidClaim, SHOWN.holds, value)
                    refusal(InvalidClaim, SHOWN.failure, value)
        for claim in (GUARD, BODY, depth_by_nots(13), depth_by_ands(13), ("pos", "<", ("i", True), J), ["and", ()],
                      ("val", "<", ("b", "i", 0, 0), X), ("all", ("i",), ("and", ()), ("and", ()))):
            refusal(InvalidClaim, SHOWN.holds, claim)
            refusal(InvalidClaim, SHOWN.failure, claim)
        for claim in (ATOM, ("and", ()), ("not", UPTO), ("and", (UPTO,))):
            refusal(InvalidOperation, SHOWN.failure, claim)


class Far(unittest.TestCase):
    def test_positions_with_fifty_digits(self):
        far = 10 ** 49
        self.assertEqual(len(str(far)), 50)
        began = time.monotonic()
        claim = all_between(FRAME, ("i", 0), ("j", 0), "<=", CELL, X)
        self.assertEqual(shown(1, 2, 3, i=-far, j=far, x=2).failure(claim), (2,))
        self.assertEqual(shown(1, 2, 3, i=-far, j=far, x=3).failure(claim), None)
        self.assertEqual(shown(-1, -2, i=-far, j=far, x=-1).failure(claim), (-far,))
        self.assertEqual(shown(-1, -2, i=0, j=far, x=-1).failure(claim), (2,))
        self.assertEqual(shown(-1, -2, i=1, j=far, x=-1).failure(claim), (2,))
        self.assertEqual(shown(-1, -2, i=far - 1, j=far, x=-1).failure(claim), (far - 1,))
        self.assertEqual(shown(-1, -2, i=0, j=1, x=-1).failure(claim), None)
        pair = in_order(FRAME, "a", ("i", 0), ("j", 0))
        self.assertEqual(shown(1, 2, i=-far, j=far).failure(pair), (0, 2))
        self.assertEqual(shown(i=-far, j=far).failure(pair), None)
        self.assertEqual(shown(0, -2, i=-far, j=far).failure(pair), (-far, 1))
        late = ("all", ("k",), ("and", (("pos", "<=", ("n", 1), K), ("pos", "<=", K, I))), ("val", "<", ("", 0), CELL))
        self.assertEqual(shown(1, 2, i=10 ** 60 - 1).failure(late), (3,))
        self.assertEqual(shown(1, 2, i=2).failure(late), None)
        self.assertLess(time.monotonic() - began, 5)

    def test_just_behind_a_term(self):
        far = 10 ** 50
        # Behind i, but not at i, nothing but a place that the guard does not name is left.
        guard = ("and", (("or", (("pos", "<=", K, ("i", -1)), ("pos", "<=", ("i", 1), K))), ("pos", "<=", ("i", 0), K)))
        claim = ("all", ("k",), guard, ("val", "<", CELL, ("", 0)))
        self.assertEqual(shown(i=far, j=far).failure(claim), (far + 1,))
        both = ("all", ("k", "l"), ("and", (guard, ("pos", "<=", K, L), ("pos", "<=", L, ("j", 0)))), BODY)
        self.assertEqual(shown(i=far, j=far + 5, x=-1).failure(both), (far + 1, far + 1))
        self.assertEqual(shown(i=far, j=far, x=-1).failure(both), None)

    def test_many_cells(self):
        began = time.monotonic()
        situation = shown(*[7] * 3000, 6, *[7] * 3000, i=10 ** 50)
        self.assertEqual(situation.failure(in_order(FRAME, "a", ("", 0), ("n", -1))), (0, 3000))
        self.assertEqual(situation.failure(all_between(FRAME, ("", 0), I, "==", CELL, ("", 7))), (3000,))
        self.assertIs(situation.holds(in_order(FRAME, "a", ("", 3000), ("n", -1))), True)
        self.assertLess(time.monotonic() - began, 5)


class ByLookingAtEach(unittest.TestCase):
    def test_failures(self):
        told = {False: 0, True: 0}
        for seed in range(1500):
            maker = Maker(seed)
            claim, situation = maker.whole(), maker.situation()
            first = next(failures(situation, claim), None)
            told[first is None] += 1
            with self.subTest(seed):
                self.assertEqual(situation.failure(claim), first)
                self.assertIs(situation.holds(claim), first is None)
        self.assertGreater(min(told.values()), 300)

    def test_claims(self):
        told = {False: 0, True: 0}
        for seed in range(600):
            maker = Maker(seed)
            claim, situation = maker.claim(3), maker.situation()
            told[true(situation, claim)] += 1
            with self.subTest(seed):
                self.assertIs(situation.holds(claim), true(situation, claim))
                if is_claim(PAIR, plain_claim(PAIR, claim, is_true=False)):
                    self.assertIs(situation.holds(plain_claim(PAIR, claim)), true(situation, claim))
                    self.assertIs(situation.holds(plain_claim(PAIR, claim, is_true=False)), not true(situation, claim))
        self.assertGreater(min(told.values()), 100)

    def test_claims_with_other_terms_and_names(self):
        for seed in range(300):
            maker = Maker(seed)
            claim, situation = maker.claim(2), maker.situation()
            terms = {"i": maker.place(), "j": maker.place(), "x": maker.amount(())}
            moved = situation.with_number("x", situation.value_at(terms["x"]))
            for name in ("i", "j"):
                moved = moved.with_number(name, situation.position_at(terms[name]))
            names = {"a": "b", "b": "k", "i": "l", "x": "j", "j": "x", "m": "kk"}
            row, places = situation.rows, situation.positions
            other = Situation(PAIR.renamed(names), {"b": row["a"], "k": row["b"]}, {"l": places["i"], "x": places["j"]},
                              {"j": situation.amounts["x"]})
            with self.subTest(seed):
                self.assertIs(situation.holds(replaced(PAIR, claim, terms)), moved.holds(claim))
                self.assertIs(other.holds(renamed_claim(PAIR, claim, names)), situation.holds(claim))

    def test_used_at_each_place(self):
        for seed in range(300):
            maker = Maker(seed)
            claim, situation = maker.whole(), maker.situation()
            terms = tuple([maker.place() for _ in claim[1]])
            own = dict(zip(claim[1], [situation.position_at(term) for term in terms]))
            wanted = not true(situation, claim[2], own) or true(situation, claim[3], own)
            with self.subTest(seed):
                self.assertIs(situation.holds(used_at(PAIR, claim, terms)), wanted)


if __name__ == "__main__":
    unittest.main()
