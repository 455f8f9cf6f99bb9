import unittest

from cellsenough.base.frames import Frame
from cellsenough.errors import InvalidNumber, InvalidOperation, InvalidQuestion
from cellsenough.logic.claims import in_order, replaced
from cellsenough.solve.questions import Question
from cellsenough.solve.trees import Closing, facts_at, is_tree
from samples import ATOM, FRAME, LONG, SHOWN, TOO_LONG, UPTO, not_integers, not_names, refusal

AFTER = replaced(FRAME, UPTO, {"i": ("i", 1)})
NEXT = Question(FRAME, (UPTO, ("val", "<=", ("a", "i", 1, 0), ("x", 0))), AFTER)
BROKEN = Question(FRAME, (UPTO,), AFTER)
Q, I, J, N, X = ("q", 0), ("i", 0), ("j", 0), ("n", 0), ("x", 0)
# A tree of NEXT, by hand: q is at most i, or it is i + 1.
TREE = (
    ("new", 3, ("q",), 1), ("part", 4, 0, 2), ("part", 4, 1, 3), ("apart", Q, ("i", 1), (4, 5, 6)),
    ("at", 1, (Q,), 7), ("ring", ((8, 0), (7, 0))), ("same", "a", 8, 10),
    ("cases", 9, (8, 9)), ("cases", 10, (11, 12)), ("ring", ((10, 0), (5, 0))),
    ("ring", ((9, 0), (2, 0), (5, 0))), ("ring", ((11, 0), (6, 0))), ("ring", ((11, 0), (8, 0))))


def question_of(*given, wanted=("or", ()), frame=FRAME):
    return Question(frame, given, wanted)


def with_node(number, node):
    return TREE[:number] + (node,) + TREE[number + 1:]


class Judged(unittest.TestCase):
    def judge(self, question, tree, answer=True):
        self.assertIs(is_tree(question, tree), answer)

    def test_by_hand(self):
        self.judge(NEXT, TREE)
        self.judge(BROKEN, TREE, False)
        self.judge(NEXT.without(0), TREE, False)

    def test_nodes_named_in_another_order(self):
        # The same tree with its nodes numbered by levels.
        told = (("new", 3, ("q",), 1), ("part", 4, 0, 2), ("part", 4, 1, 3), ("apart", Q, ("i", 1), (4, 6, 5)),
                ("at", 1, (Q,), 7), ("same", "a", 8, 8), ("ring", ((8, 0), (7, 0))), ("cases", 9, (10, 9)),
                ("ring", ((9, 0), (2, 0), (5, 0))), ("ring", ((10, 0), (5, 0))), ("cases", 10, (12, 11)),
                ("ring", ((11, 0), (8, 0))), ("ring", ((11, 0), (6, 0))))
        self.judge(NEXT, told)

    def test_wrong_numbers_of_next_nodes(self):
        wrong = [
            with_node(0, ("new", 3, ("q",), 0)), with_node(0, ("new", 3, ("q",), 2)), with_node(0, ("new", 3, ("q",), True)),
            with_node(1, ("part", 4, 0, 1)), with_node(1, ("part", 4, 0, 0)), with_node(1, ("part", 4, 0, 13)),
            with_node(1, ("part", 4, 0, -1)), with_node(1, ("part", 4, 0, None)), with_node(1, ("part", 4, 0, (2,))),
            with_node(3, ("apart", Q, ("i", 1), (4, 5))), with_node(3, ("apart", Q, ("i", 1), (4, 5, 5))),
            with_node(3, ("apart", Q, ("i", 1), [4, 5, 6])), with_node(3, ("apart", Q, ("i", 1), (4, 5, 6, 7))),
            with_node(3, ("apart", Q, ("i", 1), (5, 4, 6))), with_node(7, ("cases", 9, (8,))), with_node(7, ("cases", 9, 8)),
            with_node(7, ("cases", 9, (8, 9, 10))), with_node(7, ("cases", 9, (9, 8))), TREE + (("ring", ((0, 0),)),),
            TREE[:12], TREE[1:], (), TREE + (("part", 0, 0, 14),), with_node(7, ("cases", 9, (8, 9.0))),
        ]
        for tree in wrong:
            with self.subTest(tree):
                self.judge(NEXT, tree, False)

    def test_wrong_values(self):
        for value in [*not_names(), list(TREE), TREE[0], tuple([list(node) for node in TREE]), (TREE,), "ring", NEXT]:
            with self.subTest(repr(value)[:40]):
                self.judge(NEXT, value, False)
        for value in not_names():
            for number in (0, 3, 5, 12):
                with self.subTest(repr(value)[:40], number=number):
                    self.judge(NEXT, with_node(number, value), False)
            for node in (("new", value, ("q",), 1), ("new", 3, value, 1), ("new", 3, (value,), 1), (value, 3, ("q",), 1)):
                self.judge(NEXT, with_node(0, node), False)
            for node in (("part", value, 1, 3), ("part", 4, value, 3)):
                if value != 1 or isinstance(value, bool):
                    self.judge(NEXT, with_node(2, node), False)
            for node in (("apart", value, ("i", 1), (4, 5, 6)), ("apart", Q, value, (4, 5, 6)), ("apart", Q, ("i", 1), value)):
                self.judge(NEXT, with_node(3, node), False)
            for node in (("at", value, (Q,), 7), ("at", 1, value, 7), ("at", 1, (value,), 7)):
                if value != 1 or isinstance(value, bool):
                    self.judge(NEXT, with_node(4, node), False)
            for node in (("ring", value), ("ring", (value,)), ("ring", ((8, 0), (7, value))), ("ring", ((value, 0), (7, 0)))):
                if value != 0 or isinstance(value, bool):
                    self.judge(NEXT, with_node(5, node), False)
            for node in (("same", value, 8, 10), ("same", "a", value, 10)):
                self.judge(NEXT, with_node(6, node), False)
            self.judge(NEXT, with_node(7, ("cases", value, (8, 9))), False)

    def test_wrong_nodes(self):
        wrong = [
            (0, ("new", 3, ("i",), 1)), (0, ("new", 3, ("q", "r"), 1)), (0, ("new", 3, (), 1)), (0, ("new", 2, ("q",), 1)),
            (0, ("new", 1, ("q",), 1)), (0, ("new", 4, ("q",), 1)), (0, ("new", 3, ("q",))), (0, ("new", 3, ("q",), 1, 1)),
            (0, ("new", 3, ["q"], 1)), (0, ("new", 3, "q", 1)), (0, ("New", 3, ("q",), 1)), (0, ("new", 3, ("*1",), 1)),
            (1, ("part", 4, 2, 2)), (1, ("part", 4, -1, 2)), (1, ("part", 5, 0, 2)), (1, ("part", 4, True, 2)), (1, ("part", 6, 0, 2)),
            (1, ("part", 3, 0, 2)), (1, ("part", -1, 0, 2)), (4, ("at", 1, (("r", 0),), 7)), (4, ("at", 1, (Q, Q), 7)),
            (4, ("at", 1, (), 7)), (4, ("at", 2, (Q,), 7)), (4, ("at", 3, (Q,), 7)), (4, ("at", 1, (("q", True),), 7)),
            (4, ("at", 1, (("q", TOO_LONG),), 7)), (4, ("at", 1, (("x", 0),), 7)), (4, ("at", 1, (("k", 0),), 7)),
            (4, ("at", 1, [Q], 7)), (5, ("ring", ((7, 0), (8, 0), (7, 0)))), (5, ("ring", ((8, 0),))), (5, ("ring", ())),
            (5, ("ring", [(8, 0), (7, 0)])), (5, ("ring", ([8, 0], (7, 0)))), (5, ("ring", ((8, 1), (7, 0)))),
            (5, ("ring", ((8, 0), (7, 0)), 6)), (5, ("ring", ((8, 0), (5, 0)))), (5, ("ring", ((8, -1), (7, 0)))),
            (6, ("same", "b", 8, 10)), (6, ("same", "n", 8, 10)), (6, ("same", "a", 7, 10)), (6, ("same", "a", 9, 10)),
            (3, ("apart", ("r", 0), ("i", 1), (4, 5, 6))), (3, ("apart", Q, ("x", 1), (4, 5, 6))),
            (3, ("apart", ("a", "q", 0, 0), ("i", 1), (4, 5, 6))), (7, ("cases", 8, (8, 9))), (7, ("cases", 1, (8, 9))),
        ]
        for number, node in wrong:
            with self.subTest(node):
                self.judge(NEXT, with_node(number, node), False)

    def test_nodes_that_are_named_twice_or_by_themselves(self):
        ring = ("ring", ((1, 0),))
        told = question_of(("pos", "<", I, I), ("and", (ATOM,)))
        self.judge(told, (("apart", I, J, (1, 2, 3)), ring, ring, ring))
        self.judge(told, (("apart", I, J, (1, 1, 1)), ring), False)
        self.judge(told, (("apart", I, J, (1, 2, 2)), ring, ring), False)
        self.judge(told, (("part", 2, 0, 0), ring), False)
        self.judge(told, (("part", 2, 0, 2), ("part", 2, 0, 1), ring), False)
        self.judge(told, (("part", 2, 0, 2), ring, ("part", 2, 0, 1)), False)

    def test_wrong_question(self):
        for value in not_names():
            refusal(InvalidQuestion, is_tree, value, None)
            refusal(InvalidQuestion, facts_at, value, None, None)
            refusal(InvalidQuestion, Closing, value)


class Kinds(unittest.TestCase):
    """Trees of one kind of node each."""

    def judge(self, question, tree, answer=True):
        self.assertIs(is_tree(question, tree), answer)

    def test_ring_alone(self):
        self.judge(question_of(("pos", "<", I, I)), (("ring", ((1, 0),)),))
        self.judge(question_of(("pos", "<", I, J), ("pos", "<=", J, I)), (("ring", ((1, 0), (2, 0))),))
        self.judge(question_of(("pos", "<", I, J), ("pos", "<=", J, I)), (("ring", ((2, 0), (1, 0), (2, 0), (1, 0))),))
        self.judge(question_of(("not", ("val", "<=", X, X))), (("ring", ((1, 0),)),))
        self.judge(question_of(wanted=("pos", "<=", I, I)), (("ring", ((1, 0),)),))
        self.judge(question_of(("pos", "<=", I, I)), (("ring", ((1, 0),)),), False)
        self.judge(question_of(("not", ("pos", "==", I, I))), (("ring", ((1, 0),)),), False)

    def test_ring_with_the_second_way(self):
        told = question_of(("pos", "==", I, ("j", 3)), ("pos", "<=", I, J))
        self.judge(told, (("ring", ((1, 1), (2, 0))),))
        self.judge(told, (("ring", ((1, 0), (2, 0))),), False)
        self.judge(told, (("ring", ((1, 2), (2, 0))),), False)
        self.judge(question_of(("pos", "==", I, ("i", 1))), (("ring", ((1, 0),)),), False)
        self.judge(question_of(("pos", "==", I, ("i", 1))), (("ring", ((1, 1),)),))

    def test_no_ring_of_positions_and_values(self):
        told = question_of(("pos", "<=", ("", 0), ("", 0)), ("val", "<", ("", 0), ("", 0)))
        self.judge(told, (("ring", ((2, 0),)),))
        self.judge(told, (("ring", ((2, 0), (2, 0))),))
        self.judge(told, (("ring", ((1, 0), (2, 0))),), False)

    def test_parts(self):
        no, yes = ("pos", "<", I, I), ("pos", "<=", I, I)
        self.judge(question_of(("and", (yes, no))), (("part", 1, 1, 1), ("ring", ((3, 0),))))
        self.judge(question_of(("and", (yes, no))), (("part", 1, 0, 1), ("ring", ((3, 0),))), False)
        self.judge(question_of(("not", ("or", (no, yes)))), (("part", 1, 1, 1), ("ring", ((3, 0),))))
        self.judge(question_of(("not", ("not", no))), (("part", 1, 0, 1), ("ring", ((3, 0),))))
        self.judge(question_of(("not", ("not", no))), (("part", 1, 1, 1), ("ring", ((3, 0),))), False)
        for claim in (("or", (no, no)), ("not", ("and", (yes, yes))), ("not", no), ("and", ())):
            self.judge(question_of(claim), (("part", 1, 0, 1), ("ring", ((3, 0),))), False)

    def test_cases(self):
        no, yes = ("pos", "<", I, I), ("pos", "<=", I, I)
        ring = ("ring", ((3, 0),))
        self.judge(question_of(("or", (no, no))), (("cases", 1, (1, 2)), ring, ring))
        self.judge(question_of(("or", (no, yes))), (("cases", 1, (1, 2)), ring, ring), False)
        self.judge(question_of(("or", (no, no))), (("cases", 1, (1,)), ring), False)
        self.judge(question_of(("not", ("and", (yes, yes, yes)))), (("cases", 1, (1, 2, 3)), ring, ring, ring))
        self.judge(question_of(("not", ("pos", "==", I, I))), (("cases", 1, (1, 2)), ring, ring))
        self.judge(question_of(("not", ("val", "==", X, X))), (("cases", 1, (1, 2)), ring, ring))
        self.judge(question_of(("not", ("pos", "==", I, J)), ("pos", "<=", J, I), ("pos", "<=", I, J)),
                   (("cases", 1, (1, 2)), ("ring", ((5, 0), (2, 0))), ("ring", ((5, 0), (3, 0)))))
        for claim in (("and", (no, no)), ("not", ("or", (yes, yes))), ("pos", "==", I, ("i", 1)), ("not", yes), ("not", ("not", no))):
            self.judge(question_of(claim), (("cases", 1, (1, 2)), ring, ring), False)

    def test_cases_of_none_close_the_way(self):
        self.judge(question_of(("or", ())), (("cases", 1, ()),))
        self.judge(question_of(wanted=("and", ())), (("cases", 1, ()),))
        self.judge(question_of(wanted=("or", ())), (("cases", 1, ()),), False)
        self.judge(question_of(("and", ())), (("cases", 1, ()),), False)
        self.judge(question_of(("or", (("or", ()),))), (("cases", 1, (1,)), ("cases", 3, ())))

    def test_new_with_two_names(self):
        order = in_order(FRAME, "a", ("", 0), ("n", -1))
        told = question_of(order, wanted=order)
        # Facts 3 and 4 are the guard and the not of the body, 5 to 7 the parts of the guard.
        parts = tuple([("part", 3, at, at + 2) for at in range(3)])
        closing = (("ring", ((9, 0), (4, 0))), ("ring", ((10, 0), (5, 0))), ("ring", ((10, 0), (6, 0))), ("ring", ((10, 0), (7, 0))))
        rest = (("at", 1, (("q", 0), ("r", 0)), 5), ("cases", 8, (6, 7)), ("cases", 9, (8, 9, 10)), *closing)
        self.judge(told, (("new", 2, ("q", "r"), 1), *parts, *rest))
        self.judge(told, (("new", 2, ("k", "j"), 1), *parts, *rest), False)
        self.judge(told, (("new", 2, ("q", "q"), 1), *parts, *rest), False)
        turned = (("at", 1, (("r", 0), ("q", 0)), 5), *rest[1:])
        self.judge(told, (("new", 2, ("q", "r"), 1), *parts, *turned), False)
        self.judge(told, (("new", 2, ("r", "q"), 1), *parts, *turned))

    def test_own_names_as_new_names(self):
        # The own name of the all can be made, and stand in the place of itself or of another one.
        tree = tuple([tuple([("k", part[1]) if part == Q else part for part in node]) for node in TREE])
        tree = (("new", 3, ("k",), 1), *tree[1:4], ("at", 1, (("k", 0),), 7), *tree[5:])
        self.judge(NEXT, tree)

    def test_names_are_made_once_on_a_way(self):
        told = question_of(("not", UPTO), ("not", UPTO), ("pos", "<", I, I))
        self.judge(told, (("new", 1, ("q",), 1), ("new", 2, ("r",), 2), ("ring", ((3, 0),))))
        self.judge(told, (("new", 1, ("q",), 1), ("new", 2, ("q",), 2), ("ring", ((3, 0),))), False)
        self.judge(told, (("new", 1, ("q",), 1), ("new", 1, ("r",), 2), ("ring", ((3, 0),))))
        # On two ways it can be the same name.
        both = (("apart", I, J, (1, 2, 3)), ("new", 1, ("q",), 4), ("new", 1, ("q",), 5), ("ring", ((3, 0),)), ("ring", ((3, 0),)),
                ("ring", ((3, 0),)))
        self.judge(told, both)
        # Where it was not made, it cannot be used.
        apart = (("apart", I, J, (1, 2, 3)), ("new", 1, ("q",), 4), ("apart", ("q", 0), I, (5, 6, 7)), ("ring", ((3, 0),)),
                 *[("ring", ((3, 0),))] * 4)
        self.judge(told, apart, False)

    def test_at_with_terms_of_the_frame(self):
        cell = ("val", "<", X, ("a", "i", 0, 0))
        told = question_of(UPTO, cell, ("pos", "<=", ("", 0), I))
        tree = (("at", 1, (I,), 1), ("cases", 5, (2, 3)), ("cases", 6, (4, 5)), ("ring", ((6, 0), (2, 0))),
                ("ring", ((7, 0), (3, 0))), ("ring", ((7, 0),)))
        self.judge(told, tree)
        self.judge(told, (("at", 1, (("i", 1),), 1), *tree[1:]), False)
        self.judge(told, (("at", 1, (("", 0),), 1), *tree[1:]), False)

    def test_apart(self):
        told = question_of(("not", ("pos", "<=", I, J)), ("pos", "<=", I, J))
        ring = ("ring", ((1, 0), (2, 0)))
        self.judge(told, (("apart", I, ("j", 7), (1, 2, 3)), ring, ring, ring))
        self.judge(told, (("apart", ("", 3), ("n", LONG), (1, 2, 3)), ring, ring, ring))
        self.judge(told, (("apart", ("", TOO_LONG), I, (1, 2, 3)), ring, ring, ring), False)
        ways = question_of(("pos", "<", I, I))
        for facts in (("pos", "<", I, J), ("pos", "<", J, I), ("pos", "==", I, J)):
            at = [("pos", "<", I, J), ("pos", "<", J, I), ("pos", "==", I, J)].index(facts) + 1
            tree = (("apart", I, J, (1, 2, 3)), *[("ring", ((1, 0),))] * 3)
            self.assertEqual(facts_at(ways, tree, at)[-1], facts)

    def test_same(self):
        told = question_of(("pos", "==", I, ("j", 2)), ("val", "<", ("a", "i", 0, 1), ("a", "j", 2, 1)))
        self.judge(told, (("same", "a", 1, 1), ("ring", ((4, 1), (2, 0)))))
        self.judge(told, (("same", "a", 1, 1), ("ring", ((4, 0), (2, 0)))), False)
        self.judge(told, (("same", "a", 2, 1), ("ring", ((4, 1), (2, 0)))), False)
        values = question_of(("val", "==", X, X), ("val", "<", X, X))
        self.judge(values, (("same", "a", 1, 1), ("ring", ((2, 0),))), False)
        wide = Frame((("a", "n"), ("b", "n")), ("i", "j"), ("x",))
        other = question_of(("pos", "==", I, ("j", 2)), ("val", "<", ("b", "i", 0, 1), ("b", "j", 2, 1)), frame=wide)
        self.judge(other, (("same", "b", 1, 1), ("ring", ((4, 1), (2, 0)))))
        self.judge(other, (("same", "a", 1, 1), ("ring", ((4, 1), (2, 0)))), False)

    def test_outside(self):
        low = question_of(("pos", "<", ("i", 2), ("", 0)), ("val", "<", ("", 0), ("a", "i", 2, 0)))
        self.judge(low, (("outside", "a", 1, 1), ("ring", ((4, 0), (2, 0)))))
        high = question_of(("pos", "<", ("n", -1), ("i", 2)), ("val", "<", ("", 0), ("a", "i", 2, 0)))
        self.judge(high, (("outside", "a", 1, 1), ("ring", ((4, 0), (2, 0)))))
        for fact in (("pos", "<=", ("i", 2), ("", 0)), ("pos", "<", ("i", 2), ("", -1)), ("pos", "<", ("n", 0), ("i", 2)),
                     ("pos", "<=", ("n", 0), ("i", 2)), ("not", ("pos", "<=", ("", 0), ("i", 2))), ("val", "<", X, ("", 0)),
                     ("pos", "<", ("", 0), ("i", 2)), ("pos", "<", ("i", 2), ("n", -1))):
            told = question_of(fact, ("val", "<", ("", 0), ("a", "i", 2, 0)))
            self.judge(told, (("outside", "a", 1, 1), ("ring", ((4, 0), (2, 0)))), False)

    def test_outside_of_arrays_of_other_lengths(self):
        frame = Frame((("a", "n"), ("b", "m")), ("i", "j"), ("x",))
        told = question_of(("pos", "<", ("n", -1), I), ("val", "<", ("", 0), ("a", "i", 0, 0)),
                           ("val", "<", ("", 0), ("b", "i", 0, 0)), frame=frame)
        self.judge(told, (("outside", "a", 2, 1), ("ring", ((6, 0), (3, 0)))))
        self.judge(told, (("outside", "b", 2, 1), ("ring", ((6, 0), (4, 0)))), False)
        self.judge(told, (("outside", "n", 2, 1), ("ring", ((6, 0), (3, 0)))), False)

    def test_outside_of_both_forms_is_the_first_one(self):
        fact = ("pos", "<", ("n", -1), ("", 0))
        first = question_of(fact, ("val", "<", ("", 0), ("a", "n", -1, 0)))
        self.judge(first, (("outside", "a", 1, 1), ("ring", ((4, 0), (2, 0)))))
        second = question_of(fact, ("val", "<", ("", 0), ("a", "", 0, 0)))
        self.judge(second, (("outside", "a", 1, 1), ("ring", ((4, 0), (2, 0)))), False)


class Single(unittest.TestCase):
    """Single nodes in a question that has a ring in each case, so that nothing but the node is judged."""

    def test_nodes(self):
        # All these are names that can be own names, or be made.
        plain = ("all", ("or",), ("pos", "<=", ("or", 0), I), ("val", "<", ("a", "or", 0, 0), X))
        pair = ("all", ("not", "pos"), ("and", ()), ("val", "<", ("a", "not", 0, 0), ("a", "pos", 0, 0)))
        no = ("pos", "<", I, I)
        given = (no, ("and", (ATOM, no)), ("or", (ATOM, no)), ("not", ("or", (ATOM, no, ATOM))), ("not", ("and", (ATOM,))),
                 ("not", ("not", ATOM)), ("not", plain), ("not", pair), plain, pair, ("pos", "==", I, J), ("val", "==", X, X),
                 ("val", "<", X, ("", 0)), ("pos", "<", I, ("", 0)), ("pos", "<", ("n", -1), I), ("not", ("pos", "==", I, J)), ("not", no),
                 ("val", "<", ("", -1), X))
        told = question_of(*given)
        K, L = ("not", 0), ("pos", 0)
        right = {
            ("part", 2, 0), ("part", 2, 1), ("part", 4, 0), ("part", 4, 2), ("part", 6, 0), ("cases", 3), ("cases", 5), ("cases", 16),
            ("new", 7, ("q",)), ("new", 7, ("or",)), ("new", 8, ("pos", "not")), ("at", 9, (I,)), ("at", 10, (I, ("n", -3))),
            ("same", "a", 11), ("outside", "a", 14), ("outside", "a", 15), ("apart", I, J), ("apart", ("", 0), ("n", 5)),
        }
        wrong = [
            ("part", 2, 2), ("part", 4, 3), ("part", 6, 1), ("part", 1, 0), ("part", 3, 0), ("part", 5, 0), ("part", 7, 0), ("part", 9, 0),
            ("part", 9, 1), ("part", 10, 0), ("part", 19, 0), ("part", 20, 0), ("part", -1, 0), ("part", 17, 0), ("part", 16, 0), ("cases", 1), ("cases", 2),
            ("cases", 4), ("cases", 6), ("cases", 7), ("cases", 9), ("cases", 11), ("cases", 17), ("cases", 19), ("new", 9, ("q",)),
            ("new", 10, ("q", "r")), ("new", 8, ("q", "q")), ("new", 8, ("q",)), ("new", 7, ("q", "r")), ("new", 6, ("q",)), ("new", 4, ("q",)),
            ("new", 1, ("q",)), ("new", 16, ("q",)), ("new", 7, ("a",)), ("at", 7, (I,)), ("at", 8, (I, I)), ("at", 1, (I,)), ("at", 3, (I,)),
            ("at", 9, (I, I)), ("at", 10, (I,)), ("at", 9, (X,)), ("at", 9, (("or", 0),)), ("at", 10, (K, L)), ("same", "n", 11),
            ("same", "b", 11), ("same", "a", 12), ("same", "a", 1), ("same", "a", 16), ("same", "x", 11), ("outside", "a", 13),
            ("outside", "a", 18), ("outside", "a", 1), ("outside", "x", 14), ("outside", "a", 11), ("apart", I, X), ("apart", ("q", 0), I),
            ("apart", I, ("", True)), ("apart", I, ("", TOO_LONG)),
        ]
        for step in [*sorted(right, key=repr), *wrong]:
            many = {"cases": 2 if step[1] != 5 else 1, "apart": 3}.get(step[0], 1)
            nexts = tuple(range(1, many + 1)) if step[0] in ("cases", "apart") else 1
            tree = ((*step, nexts), *[("ring", ((1, 0),))] * many)
            with self.subTest(step):
                self.assertIs(is_tree(told, tree), step in right)

    def test_the_first_fact(self):
        told = question_of(("pos", "<", N, ("", 0)))
        self.assertIs(is_tree(told, (("ring", ((0, 0), (1, 0))),)), True)

    def test_what_is_added(self):
        told = question_of(("pos", "<", ("i", 2), ("", 0)), ("pos", "==", I, ("j", 3)), ("pos", "<", I, I), ("pos", "<", ("n", -1), ("j", 4)))
        ring = ("ring", ((3, 0),))
        for step, added in [(("outside", "a", 1), ("val", "==", ("a", "i", 2, 0), ("", 0))), (("outside", "a", 4), ("val", "==", ("a", "j", 4, 0), ("", 0))),
                            (("same", "a", 2), ("val", "==", ("a", "i", 0, 0), ("a", "j", 3, 0)))]:
            self.assertEqual(facts_at(told, ((*step, 1), ring), 1), (*told.facts, added))


class Facts(unittest.TestCase):
    def test_facts_at(self):
        self.assertEqual(facts_at(NEXT, TREE, 0), NEXT.facts)
        guard = ("and", (("pos", "<=", ("", 0), Q), ("pos", "<=", Q, ("i", 1))))
        known = (*NEXT.facts, guard, ("not", ("val", "<=", ("a", "q", 0, 0), X)), *guard[1])
        self.assertEqual(facts_at(NEXT, TREE, 1), known[:6])
        self.assertEqual(facts_at(NEXT, TREE, 3), known)
        self.assertEqual(facts_at(NEXT, TREE, 5), (*known, ("pos", "<", ("i", 1), Q)))
        said = ("or", (("not", ("and", (("pos", "<=", ("", 0), Q), ("pos", "<=", Q, I)))), ("val", "<=", ("a", "q", 0, 0), X)))
        self.assertEqual(facts_at(NEXT, TREE, 7), (*known, ("pos", "<", Q, ("i", 1)), said))
        self.assertEqual(facts_at(NEXT, TREE, 12)[-3:], (said, said[1][0], ("not", ("pos", "<=", Q, I))))
        self.assertEqual(facts_at(NEXT, TREE, 10)[-2:],
                         (("pos", "==", Q, ("i", 1)), ("val", "==", ("a", "q", 0, 0), ("a", "i", 1, 0))))

    def test_wrong(self):
        for value in [*not_names(), TREE[:12], list(TREE)]:
            with self.subTest(repr(value)[:40]):
                refusal(InvalidOperation, facts_at, NEXT, value, 0)
                refusal(InvalidOperation, facts_at, NEXT, value, None)
        refusal(InvalidOperation, facts_at, BROKEN, TREE, 0)
        for value in (*not_integers(), -1, 13, LONG):
            with self.subTest(repr(value)[:40]):
                self.assertEqual(refusal(InvalidNumber, facts_at, NEXT, TREE, value).given, value)

    def test_long_ways(self):
        # A way of thousands of nodes, and of facts.
        told = question_of(("and", (ATOM,)), ("pos", "<", I, I))
        tree = (*[("part", 1, 0, at + 1) for at in range(4000)], ("ring", ((2, 0),)))
        self.assertIs(is_tree(told, tree), True)
        self.assertEqual(len(facts_at(told, tree, 4000)), 4004)
        self.assertIs(SHOWN.holds(facts_at(told, tree, 4000)[-1]), True)


if __name__ == "__main__":
    unittest.main()
