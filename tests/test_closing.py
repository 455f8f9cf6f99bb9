import unittest

from cellsenough.errors import InvalidNumber, InvalidOperation, InvalidQuestion, NothingToUndo
from cellsenough.solve.questions import Question
from cellsenough.solve.trees import Closing, facts_at, is_tree
from samples import FRAME, LONG, TOO_LONG, UPTO, not_integers, not_names, refusal
from test_trees import BROKEN, I, J, NEXT, Q, question_of

STEPS = [("new", 3, "q"), ("part", 4, 0), ("part", 4, 1), ("apart", Q, ("i", 1)), ("use", 1, Q), ("cases", 9), ("cases", 10),
         ("ring", (11, 0), (6, 0)), ("ring", (11, 0), (8, 0)), ("ring", (10, 0), (5, 0)), ("ring", (8, 0), (7, 0)),
         ("same", "a", 8), ("ring", (9, 0), (2, 0), (5, 0))]


def do(closing, step):
    return getattr(closing, step[0])(*step[1:])


def done(question, steps):
    closing = Closing(question)
    for step in steps:
        do(closing, step)
    return closing


class Steps(unittest.TestCase):
    def test_a_whole_tree(self):
        closing = Closing(NEXT)
        numbers, opened = [], []
        for step in STEPS:
            self.assertIs(bool(closing), False)
            numbers.append(do(closing, step))
            opened.append(closing.open_nodes)
        self.assertEqual(numbers, [0, 1, 2, 3, 4, 7, 8, 10, 11, 9, 5, 6, 12])
        self.assertEqual(opened[:5], [(1,), (2,), (3,), (4, 5, 6), (5, 6, 7)])
        self.assertEqual(opened[5:], [(5, 6, 8, 9), (5, 6, 9, 10, 11), (5, 6, 9, 11), (5, 6, 9), (5, 6), (6,), (12,), ()])
        self.assertIs(bool(closing), True)
        self.assertIs(is_tree(NEXT, closing.tree), True)
        self.assertEqual([len(closing), len(closing.tree), str(closing)], [13, 13, "closing with 13 nodes, 0 open"])
        self.assertEqual(closing.tree[3:5], (("apart", Q, ("i", 1), (4, 5, 6)), ("at", 1, (Q,), 7)))

    def test_facts(self):
        closing = Closing(NEXT)
        self.assertEqual([closing.facts, closing.open_nodes, len(closing), str(closing)],
                         [NEXT.facts, (0,), 0, "closing with 0 nodes, 1 open"])
        known = []
        for step in STEPS:
            known.append((closing.open_nodes, closing.facts))
            do(closing, step)
        tree = closing.tree
        for number, (_, facts) in zip([0, 1, 2, 3, 4, 7, 8, 10, 11, 9, 5, 6, 12], known):
            self.assertEqual(facts_at(NEXT, tree, number), facts)
        refusal(InvalidOperation, getattr, closing, "facts")

    def test_outside_and_cases_of_none(self):
        told = question_of(("or", (("pos", "<", I, ("", 0)), ("or", ()))), ("val", "<", ("", 0), ("a", "i", 0, 0)))
        closing = Closing(told)
        self.assertEqual([closing.cases(1), closing.outside("a", 4), closing.ring((5, 0), (2, 0)), closing.cases(4)], [0, 1, 3, 2])
        self.assertEqual([bool(closing), closing.tree],
                         [True, (("cases", 1, (1, 2)), ("outside", "a", 4, 3), ("cases", 4, ()), ("ring", ((5, 0), (2, 0))))])
        self.assertIs(is_tree(told, closing.tree), True)

    def test_a_tree_that_is_open(self):
        closing = done(NEXT, STEPS[:-1])
        refusal(InvalidOperation, getattr, closing, "tree")
        do(closing, STEPS[-1])
        self.assertEqual(len(closing.tree), 13)

    def test_what_is_told_has_no_effect(self):
        closing = done(NEXT, STEPS[:8])
        for name in ("facts", "open_nodes"):
            self.assertIsInstance(getattr(closing, name), tuple)
        for name in ("facts", "open_nodes", "tree"):
            with self.assertRaises(AttributeError):
                setattr(closing, name, ())


class Wrong(unittest.TestCase):
    def check(self, closing, step):
        before = str(closing), closing.facts, closing.open_nodes
        refusal(InvalidOperation, do, closing, step)
        self.assertEqual((str(closing), closing.facts, closing.open_nodes), before)

    def test_question(self):
        for value in not_names():
            refusal(InvalidQuestion, Closing, value)

    def test_steps_that_cannot_be_made(self):
        closing = done(NEXT, STEPS[:4])
        wrong = [("part", 4, 2), ("part", 4, -1), ("part", 8, 0), ("part", 0, 0), ("part", 4, True), ("cases", 4), ("cases", 0),
                 ("cases", 1), ("new", 3, "q"), ("new", 3), ("new", 3, "r", "s"), ("new", 3, "i"), ("new", 1, "r"), ("use", 1),
                 ("use", 1, Q, Q), ("use", 1, ("r", 0)), ("use", 3, Q), ("use", 1, ("q", TOO_LONG)), ("apart", Q, ("x", 0)),
                 ("apart", ("r", 0), Q), ("same", "a", 7), ("same", "b", 7), ("outside", "a", 7), ("outside", "b", 7), ("ring",),
                 ("ring", (7, 0)), ("ring", (7,)), ("ring", [7, 0]), ("ring", (99, 0)), ("ring", (7, 1)), ("ring", (3, 0))]
        for step in wrong:
            with self.subTest(step):
                self.check(closing, step)
        self.check(done(NEXT, STEPS[:10]), ("same", "a", 8))

    def test_steps_with_wrong_values(self):
        closing = done(NEXT, STEPS[:4])
        for value in not_names():
            for step in (("part", value, value), ("cases", value), ("new", value, "r"), ("new", 3, value), ("use", value, Q),
                         ("use", 1, value), ("apart", value, Q), ("apart", Q, value), ("same", value, 7), ("same", "a", value),
                         ("outside", value, 7), ("outside", "a", value), ("ring", value), ("ring", (value, 0)), ("ring", (7, value))):
                if value == 1 and not isinstance(value, bool) and step[0] == "use":
                    continue
                with self.subTest(repr(step)[:50]):
                    self.check(closing, step)

    def test_steps_when_none_is_open(self):
        closing = done(NEXT, STEPS)
        for step in STEPS:
            refusal(InvalidOperation, do, closing, step)
        self.assertEqual(len(closing), 13)


class Undone(unittest.TestCase):
    def test_undo(self):
        closing = done(NEXT, STEPS)
        known = []
        for many in range(13):
            one = done(NEXT, STEPS[:many])
            known.append((one.open_nodes, one.facts, str(one)))
        for many in range(12, -1, -1):
            self.assertEqual(closing.undo(), len(known[many][0]))
            self.assertEqual((closing.open_nodes, closing.facts, str(closing)), known[many])
            self.assertEqual(closing, done(NEXT, STEPS[:many]))
        self.assertEqual([len(closing), closing.open_nodes, closing.undo(many=0)], [0, (0,), 1])
        for step in STEPS:
            do(closing, step)
        self.assertEqual([closing.undo(many=9), closing.open_nodes], [3, (4, 5, 6)])
        self.assertEqual([closing.undo(many=0), closing.undo(many=4), closing.open_nodes], [3, 1, (0,)])

    def test_other_steps_behind_undo(self):
        closing = done(NEXT, STEPS[:6])
        closing.undo(many=3)
        self.assertEqual([closing.use(1, Q), closing.cases(8), closing.open_nodes], [3, 4, (5, 6)])
        self.assertEqual(closing, done(NEXT, [*STEPS[:3], ("use", 1, Q), ("cases", 8)]))

    def test_wrong(self):
        closing = done(NEXT, STEPS[:4])
        for value in (*not_integers(), -1, -LONG):
            with self.subTest(repr(value)[:40]):
                self.assertEqual(refusal(InvalidNumber, closing.undo, many=value).given, value)
        self.assertEqual(refusal(NothingToUndo, closing.undo, many=5).many, 5)
        self.assertEqual(refusal(NothingToUndo, closing.undo, many=LONG).many, LONG)
        self.assertEqual(len(closing), 4)
        self.assertEqual(refusal(NothingToUndo, Closing(NEXT).undo).many, 1)

    def test_twin(self):
        closing = done(NEXT, STEPS[:6])
        twin = closing.twin()
        self.assertEqual(twin, closing)
        do(twin, STEPS[6])
        closing.undo(many=2)
        self.assertEqual([len(twin), len(closing), twin == closing], [7, 4, False])
        twin.undo(many=7)
        self.assertEqual([twin == Closing(NEXT), len(closing)], [True, 4])

    def test_equality(self):
        closing = done(NEXT, STEPS[:6])
        same = Closing(Question(FRAME, NEXT.claims, NEXT.goal))
        for step in STEPS[:6]:
            do(same, step)
        self.assertIs(closing == same, True)
        self.assertIs(closing != same, False)
        others = [done(NEXT, STEPS[:5]), done(NEXT, [*STEPS[:5], ("apart", I, J)]), Closing(BROKEN), closing.tree if closing else 0]
        for other in [*others, *not_names()]:
            with self.subTest(repr(other)[:40]):
                self.assertIs(closing == other, False)
                self.assertIs(closing != other, True)
        self.assertIs(Closing(NEXT) == Closing(BROKEN), False)
        self.assertIs(Closing(question_of(UPTO)) == Closing(question_of(UPTO)), True)
        refusal(TypeError, iter, closing)


if __name__ == "__main__":
    unittest.main()
