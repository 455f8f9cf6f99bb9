import unittest

from cellsenough.base.frames import Frame
from cellsenough.decide.follows import follows
from cellsenough.desk.desk import MAX_CLAIMS, MAX_PINS, Desk
from cellsenough.errors import (
    InvalidClaim, InvalidFrame, InvalidNumber, InvalidOperation, NothingToUndo, Refused, TooMany, UnknownName)
from cellsenough.solve.questions import Question
from cellsenough.solve.trees import is_tree
from cellsenough.world.situations import Situation
from outlines import I, J, LOW, UP, X, Outlines, cell, lt
from samples import ATOM, FRAME, LONG, UPTO, depth_by_nots, not_integers, not_names, refusal
from test_questions import is_small
from test_truth import PAIR

NEVER, ALWAYS = ("or", ()), ("and", ())
WIDE = ("and", tuple([("val", "<=", cell("i", shift), X) for shift in range(1, 18)]))
FAR = lt(("i", 900), J)


def most(number):
    return ("val", "<=", X, ("", number))


def told(claims, facts=(), pins=(), frame=FRAME):
    """A desk with these claims, facts and pins."""
    desk = Desk(frame)
    for fact in facts:
        desk.suppose(fact)
    for name in claims:
        desk.enter(name, claims[name])
    for pin in pins:
        desk.pin(pin)
    return desk


def truths(desk):
    """Whether each pair follows, by its question."""
    claims, facts = desk.claims, desk.facts
    return {(one, other): follows(Question(desk.frame, (*facts, claims[one]), claims[other]))
            for one in claims for other in claims if one != other}


def state(desk):
    return (desk.facts, desk.claims, desk.pins, str(desk), list(desk), len(desk))


class Changes(unittest.TestCase):
    def test_the_example(self):
        desk = Desk(FRAME)
        self.assertEqual(desk.enter("low", LOW), ())
        self.assertEqual(desk.enter("up", UP), (("low", "up", None, False), ("up", "low", None, True)))
        self.assertEqual(desk.pin(("follows", "up", "low")), ())
        self.assertEqual([desk.follows("low", "up"), desk.follows("up", "low")], [False, True])
        self.assertEqual(state(desk), ((), {"low": LOW, "up": UP}, (("follows", "up", "low"),), "desk of 2 claims, 0 facts, 1 pins", ["low", "up"], 2))
        self.assertEqual([MAX_CLAIMS, MAX_PINS], [8, 8])

    def test_facts(self):
        desk = told({"one": ("val", "<=", X, ("", 3)), "two": lt(I, J)})
        self.assertEqual(desk.suppose(lt(I, J)), (("one", "two", False, True),))
        self.assertEqual(desk.suppose(lt(I, J)), ())
        self.assertEqual(desk.suppose(NEVER), (("two", "one", False, True),))
        self.assertEqual(desk.facts, (lt(I, J), lt(I, J), NEVER))
        self.assertEqual(desk.drop(0), ())
        self.assertEqual(desk.drop(1), (("two", "one", True, False),))
        self.assertEqual(desk.facts, (lt(I, J),))
        self.assertEqual(desk.drop(0), (("one", "two", True, False),))

    def test_replaced_and_removed(self):
        desk = told({"b": most(3), "a": most(4), "c": most(5)})
        self.assertEqual(list(desk), ["a", "b", "c"])
        self.assertEqual(list(desk.claims), ["a", "b", "c"])
        self.assertEqual(desk.enter("b", most(9)), (("a", "b", False, True), ("b", "a", True, False), ("b", "c", True, False), ("c", "b", False, True)))
        self.assertEqual(desk.enter("b", most(9)), ())
        self.assertEqual(desk.remove("b"), (("a", "b", True, None), ("b", "a", False, None), ("b", "c", False, None), ("c", "b", True, None)))
        self.assertEqual([desk.remove("a"), desk.remove("c"), len(desk)], [(("a", "c", True, None), ("c", "a", False, None)), (), 0])

    def test_random(self):
        """The news and the pins agree with the questions, whatever is done."""
        counted = {"done": 0, "refused": 0, "news": 0}
        for seed in range(40):
            maker = Outlines(seed)
            desk = Desk(PAIR)
            before = {}
            for _ in range(25):
                old = (state(desk), truths(desk))
                try:
                    news = self.random_change(maker, desk)
                except (Refused, InvalidOperation, UnknownName, InvalidNumber, TooMany, NothingToUndo):
                    counted["refused"] += 1
                    self.assertEqual((state(desk), truths(desk)), old)
                    continue
                counted["done"] += 1
                now = truths(desk)
                wanted = [(*pair, before.get(pair), now.get(pair)) for pair in sorted({*before, *now}) if before.get(pair) != now.get(pair)]
                self.assertEqual(news, tuple(wanted))
                counted["news"] += len(news)
                before = now
                for one, other in now:
                    self.assertIs(desk.follows(one, other), now[one, other])
                for pin in desk.pins:
                    if pin[0] == "possible":
                        self.assertIs(follows(Question(PAIR, (*desk.facts, desk[pin[1]]), NEVER)), False)
                    else:
                        self.assertIs(now[pin[1:]], pin[0] == "follows")
        self.assertGreater(min(counted.values()), 100)

    def random_change(self, maker, desk):
        kind = maker.random.randrange(12)
        names = [maker.random.choice(("p", "q", "r", "s")) for _ in range(2)]
        if kind < 4:
            return desk.enter(names[0], maker.claim(1))
        if kind == 4:
            return desk.remove(names[0])
        if kind < 7:
            return desk.suppose(maker.claim(1))
        if kind == 7:
            return desk.drop(maker.random.randrange(3))
        if kind == 8:
            pins = (("follows", *names), ("open", *names), ("possible", names[0]))
            return desk.pin(maker.random.choice(pins))
        if kind == 9 and desk.pins:
            return desk.unpin(maker.random.choice(desk.pins))
        return desk.undo(many=maker.random.randrange(4)) if kind == 10 else desk.redo(many=maker.random.randrange(3))


class Asked(unittest.TestCase):
    def test_follows_and_paper(self):
        desk = told({"up": UP, "low": LOW, "far": most(3)}, (most(2),))
        for one in desk:
            for other in desk:
                question = Question(FRAME, (most(2), desk[one]), desk[other])
                shown = desk.paper(one, other)
                self.assertIs(desk.follows(one, other), follows(question))
                if follows(question):
                    self.assertIs(is_tree(question, shown), True)
                else:
                    self.assertIs(question.is_broken_by(shown), True)
                    self.assertTrue(is_small(question, shown))

    def test_unknown_names(self):
        desk = told({"up": UP, "low": LOW})
        for value in not_names():
            for call in (desk.follows, desk.paper):
                self.assertEqual(refusal(UnknownName, call, value, None).wanted, value)
                self.assertEqual(refusal(UnknownName, call, "up", value).wanted, value)
            for call in (desk.remove, desk.__getitem__):
                self.assertEqual(refusal(UnknownName, call, value).wanted, value)
            self.assertIs(value in desk, False)
        self.assertEqual(refusal(UnknownName, desk.follows, "x", "y").wanted, "x")
        self.assertEqual(refusal(UnknownName, desk.remove, "x").wanted, "x")
        self.assertEqual([desk["up"], "up" in desk, "i" in desk], [UP, True, False])

    def test_a_name_with_itself(self):
        desk = told({"up": UP, "never": NEVER})
        self.assertEqual([desk.follows("up", "up"), desk.follows("never", "never")], [True, True])
        self.assertIs(is_tree(Question(FRAME, (UP,), UP), desk.paper("up", "up")), True)
        # A single claim can be as large as it likes, until it is asked about.
        alone = told({"wide": WIDE})
        for call in (alone.follows, alone.paper):
            self.assertEqual(refusal(TooMany, call, "wide", "wide").limit, 16)


class Pins(unittest.TestCase):
    def test_pins_hold_at_all_times(self):
        pins = (("follows", "low", "high"), ("open", "high", "low"), ("possible", "low"))
        desk = told({"low": most(3), "high": most(5)}, pins=pins)
        self.assertEqual(desk.pins, pins)
        old = state(desk)
        for call, pin in ((lambda: desk.enter("low", most(6)), pins[0]), (lambda: desk.enter("high", most(3)), pins[1]),
                          (lambda: desk.suppose(most(2)), pins[1]), (lambda: desk.suppose(NEVER), pins[1]),
                          (lambda: desk.enter("low", NEVER), pins[2]), (lambda: desk.enter("low", ("not", most(5))), pins[0])):
            self.assertEqual(refusal(Refused, call).claim, pin)
            self.assertEqual(state(desk), old)
        self.assertEqual(desk.suppose(("not", most(2))), ())
        self.assertEqual(refusal(Refused, desk.suppose, ("not", most(3))).claim, pins[2])
        # What was refused is no change.
        self.assertEqual(refusal(NothingToUndo, desk.undo, many=7).many, 7)
        self.assertEqual(desk.undo(many=6), (("high", "low", False, None), ("low", "high", True, None)))

    def test_names_of_pins_stay(self):
        desk = told({"low": most(3), "high": most(5), "mid": most(4)}, pins=(("follows", "low", "high"), ("possible", "mid")))
        for name in ("low", "high", "mid"):
            refusal(InvalidOperation, desk.remove, name)
        desk.unpin(("follows", "low", "high"))
        self.assertEqual([len(desk.remove("high")), desk.pins], [4, (("possible", "mid"),)])
        refusal(InvalidOperation, desk.remove, "mid")

    def test_pins_that_do_not_hold(self):
        desk = told({"low": most(3), "high": most(5), "never": NEVER})
        for pin in (("open", "low", "high"), ("follows", "high", "low"), ("possible", "never"), ("open", "never", "low")):
            self.assertEqual(refusal(Refused, desk.pin, pin).claim, pin)
        self.assertEqual([desk.pins, desk.undo(many=3), desk.pins], [(), NEWS, ()])

    def test_wrong_pins(self):
        desk = told({"low": most(3), "high": most(5)}, pins=(("follows", "low", "high"),))
        wrong = [("follows", "low", "low"), ("open", "high", "high"), ("possible", "low", "high"), ("follows", "low"), ("possible",), ("Follows", "low", "high"),
                 ("shut", "low", "high"), ["open", "high", "low"], ("possible", "x"), ("open", "low", "x"), ("open", "x", "low"), ("follows", "low", "high"),
                 (True, "low", "high"), ("possible", None), (("possible",), "low"), ("possible", "low", None), ("follows", ("low",), "high")]
        for value in [*wrong, *not_names()]:
            refusal(InvalidOperation, desk.pin, value)
            if value != ("follows", "low", "high"):
                refusal(InvalidOperation, desk.unpin, value)
        refusal(InvalidOperation, desk.unpin, ("possible", "low"))
        self.assertEqual(desk.unpin(("follows", "low", "high")), ())
        refusal(InvalidOperation, desk.unpin, ("follows", "low", "high"))

    def test_eight_pins(self):
        claims = {name: most(at) for at, name in enumerate("abcdefghi"[:8])}
        desk = told(claims, pins=[("possible", name) for name in claims])
        self.assertEqual(len(desk.pins), 8)
        self.assertEqual(refusal(TooMany, desk.pin, ("follows", "a", "b")).limit, 8)
        # More than eight are told ahead of one that does not hold, and what is no pin ahead of both.
        self.assertEqual(refusal(TooMany, desk.pin, ("follows", "b", "a")).limit, 8)
        refusal(InvalidOperation, desk.pin, ("follows", "b", "z"))
        refusal(InvalidOperation, desk.pin, ("possible", "a"))
        desk.unpin(("possible", "a"))
        self.assertEqual(desk.pin(("follows", "a", "b")), ())


NEWS = (("high", "low", False, None), ("high", "never", False, None), ("low", "high", True, None), ("low", "never", False, None),
        ("never", "high", True, None), ("never", "low", True, None))


class Histories(unittest.TestCase):
    def test_undo_and_redo(self):
        desk = told({"b": most(3), "a": most(4)})
        desk.suppose(most(3))
        full = state(desk)
        self.assertEqual(desk.undo(), (("a", "b", True, False),))
        self.assertEqual(desk.redo(), (("a", "b", False, True),))
        self.assertEqual(state(desk), full)
        self.assertEqual(desk.undo(many=2), (("a", "b", True, None), ("b", "a", True, None)))
        self.assertEqual([list(desk), desk.facts], [["b"], ()])
        self.assertEqual(desk.undo(), ())
        self.assertEqual([list(desk), desk.undo(many=0), desk.redo(many=0)], [[], (), ()])
        self.assertEqual(refusal(NothingToUndo, desk.undo).many, 1)
        self.assertEqual(desk.redo(many=3), (("a", "b", None, True), ("b", "a", None, True)))
        self.assertEqual(state(desk), full)
        self.assertEqual(refusal(NothingToUndo, desk.redo).many, 1)
        self.assertEqual(refusal(NothingToUndo, desk.undo, many=4).many, 4)

    def test_pins_in_histories(self):
        desk = told({"b": most(3), "a": most(4)}, pins=(("possible", "a"),))
        desk.unpin(("possible", "a"))
        self.assertEqual([desk.undo(), desk.pins, desk.undo(), desk.pins], [(), (("possible", "a"),), (), ()])
        self.assertEqual([desk.redo(), desk.pins], [(), (("possible", "a"),)])
        refusal(Refused, desk.suppose, NEVER)
        self.assertEqual([desk.redo(), desk.pins], [(), ()])

    def test_redo_behind_another_change(self):
        desk = told({"b": most(3), "a": most(4)})
        desk.undo()
        # What is refused, and what takes back or makes again none, is no change.
        refusal(InvalidClaim, desk.suppose, None)
        refusal(UnknownName, desk.remove, "a")
        desk.undo(many=0)
        self.assertEqual([desk.redo(), desk.undo()][0], (("a", "b", None, False), ("b", "a", None, True)))
        # A change that leaves all as it was is a change.
        self.assertEqual(desk.enter("b", most(3)), ())
        self.assertEqual(refusal(NothingToUndo, desk.redo).many, 1)
        self.assertEqual([desk.undo(many=2), list(desk)], [(), []])
        self.assertEqual([desk.redo(many=2), list(desk)], [(), ["b"]])

    def test_wrong_numbers(self):
        desk = told({"b": most(3)})
        for value in (*not_integers(), -1, 1.5, "1"):
            for call in (desk.undo, desk.redo):
                self.assertEqual(refusal(InvalidNumber, call, many=value).given, value)
        self.assertEqual(refusal(NothingToUndo, desk.undo, many=LONG).many, LONG)
        for call in (desk.undo, desk.redo):
            with self.assertRaises(TypeError):
                call(1)

    def test_twin(self):
        desk = told({"b": most(3), "a": most(4)}, pins=(("follows", "b", "a"),))
        desk.undo()
        twin = desk.twin()
        self.assertEqual(twin, desk)
        twin.redo()
        self.assertEqual([twin == desk, desk.pins, twin.pins], [False, (), (("follows", "b", "a"),)])
        twin.undo(many=3)
        self.assertEqual([len(twin), len(desk), desk.redo(), desk.pins], [0, 2, (), (("follows", "b", "a"),)])
        self.assertEqual([twin.redo(many=3), twin == desk], [(("a", "b", None, False), ("b", "a", None, True)), True])


class Limits(unittest.TestCase):
    def test_wrong_frames(self):
        for value in not_names():
            if value != FRAME:
                refusal(InvalidFrame, Desk, value)

    def test_wrong_arguments(self):
        desk = told({"b": most(3)}, (ATOM,))
        old = state(desk)
        for value in not_names():
            refusal(InvalidOperation, desk.enter, value, None)
            if value != ("and", ()):
                refusal(InvalidClaim, desk.enter, "a", value)
                refusal(InvalidClaim, desk.suppose, value)
        refusal(InvalidClaim, desk.suppose, depth_by_nots(13))
        for value in (*[value for value in not_integers() if value != 0], 1, -1, LONG):
            self.assertEqual(refusal(InvalidNumber, desk.drop, value).given, value)
        self.assertEqual(state(desk), old)

    def test_eight_names_and_facts(self):
        desk = told({name: most(at) for at, name in enumerate("abcdefgh")}, [most(at + 9) for at in range(8)])
        old = state(desk)
        self.assertEqual(refusal(TooMany, desk.enter, "i", ALWAYS).limit, 8)
        self.assertEqual(refusal(TooMany, desk.suppose, ALWAYS).limit, 8)
        refusal(InvalidClaim, desk.enter, "i", None)
        self.assertEqual(state(desk), old)
        self.assertEqual(desk.enter("h", most(7)), ())
        self.assertEqual(len(desk.claims), 8)

    def test_too_large_questions(self):
        desk = told({"b": most(3)}, pins=(("possible", "b"),))
        old = state(desk)
        for claim, limit in ((WIDE, 16), (FAR, 1000)):
            self.assertEqual(refusal(TooMany, desk.enter, "a", claim).limit, limit)
            # There is no pair, but a pin.
            self.assertEqual(refusal(TooMany, desk.suppose, claim).limit, limit)
            self.assertEqual(refusal(TooMany, desk.enter, "b", claim).limit, limit)
            alone = told({"a": claim})
            self.assertEqual(refusal(TooMany, alone.pin, ("possible", "a")).limit, limit)
            self.assertEqual(refusal(TooMany, alone.enter, "b", ALWAYS).limit, limit)
            self.assertEqual(alone.suppose(claim), ())
        self.assertEqual(state(desk), old)

    def test_a_pin_that_would_name_what_is_not_there_comes_first(self):
        desk = told({"b": NEVER, "c": most(1)}, pins=(("follows", "b", "c"),))
        refusal(InvalidOperation, desk.remove, "b")
        full = told({name: most(at) for at, name in enumerate("abcdefgh")}, pins=(("follows", "a", "b"),))
        # A ninth name is told ahead of a question that is too large, and this ahead of a pin.
        self.assertEqual(refusal(TooMany, full.enter, "i", WIDE).limit, 8)
        self.assertEqual(refusal(TooMany, full.enter, "b", ("and", (NEVER, WIDE))).limit, 16)
        self.assertEqual(refusal(Refused, full.enter, "b", NEVER).claim, ("follows", "a", "b"))


class Objects(unittest.TestCase):
    def test_equality(self):
        desk = told({"b": most(3), "a": most(4)}, (ATOM, ALWAYS), (("possible", "a"), ("possible", "b")))
        same = told({"a": most(4), "b": most(3)}, (ATOM, ALWAYS), (("possible", "a"), ("possible", "b")))
        others = [told({"b": most(3), "a": most(4)}, (ALWAYS, ATOM), desk.pins), told({"b": most(3), "a": most(4)}, desk.facts, desk.pins[::-1]),
                  told({"b": most(3), "c": most(4)}, desk.facts), told({"b": most(3), "a": most(5)}, desk.facts, desk.pins),
                  told({}, frame=PAIR), Desk(FRAME)]
        self.assertEqual([desk == same, desk != same], [True, False])
        for other in (*others, *not_names()):
            self.assertEqual([desk == other, desk != other], [False, True])
        self.assertEqual(Desk(FRAME), Desk(Frame((("a", "n"),), ("i", "j"), ("x",))))

    def test_nothing_is_shared(self):
        desk = told({"b": most(3), "a": most(4)})
        desk.claims.clear()
        self.assertEqual(desk.claims, {"a": most(4), "b": most(3)})
        for name in ("frame", "facts", "claims", "pins"):
            with self.assertRaises(AttributeError):
                setattr(desk, name, ())
        shown = desk.paper("a", "b")
        self.assertIsInstance(shown, Situation)
        self.assertEqual(shown, desk.paper("a", "b"))
        self.assertEqual(str(Desk(FRAME)), "desk of 0 claims, 0 facts, 0 pins")

    def test_claims_with_alls(self):
        desk = told({"upto": UPTO, "cell": ("val", "<=", cell("i"), X)})
        self.assertEqual(desk.suppose(("pos", "<=", ("", 0), I)), (("upto", "cell", False, True),))


if __name__ == "__main__":
    unittest.main()
