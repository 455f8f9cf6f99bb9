import unittest

from cellsenough.desk.desk import Desk
from cellsenough.errors import InvalidFrame
from cellsenough.solve.questions import Question
from cellsenough.text.shell import Shell
from cellsenough.text.texts import read_claim, write_claim
from cellsenough.world.listing import situations
from outlines import LOW, UP, Outlines
from samples import FRAME, LONG, UPTO, not_names, refusal
from test_desk import FAR, WIDE, told
from test_truth import PAIR


def said(*commands, frame=FRAME):
    """A shell that was told these commands."""
    shell = Shell(frame)
    for command in commands:
        shell(command)
    return shell


class Answers(unittest.TestCase):
    def check(self, shell, *pairs):
        for command, answer in pairs:
            with self.subTest(command):
                self.assertEqual(shell(command), answer)

    def test_the_example(self):
        shell = Shell(FRAME)
        self.check(shell, ("enter one x <= 3", "none"), ("enter two x <= 4", "one two - yes, two one - no"), ("suppose [i < j]", "none"),
                   ("follows one two", "yes"), ("break one two", "none"), ("drop 5", "no"))
        self.assertEqual([len(shell), str(shell)], [5, "shell of 5 commands"])

    def test_each_command(self):
        shell = Shell(FRAME)
        self.check(
            shell, ("names", "none"), ("facts", "none"), ("undo 0", "none"), ("redo 0", "none"),
            ("enter b x <= 3", "none"), ("enter a x <= 4", "a b - no, b a - yes"), ("names", "a b"), ("show a", "x <= 4"),
            ("suppose and([i < j], x < 3)", "a b no yes"), ("suppose or(x < 2, x == 2)", "none"), ("facts", "and([i < j], x < 3) & or(x < 2, x == 2)"),
            ("drop 0", "none"), ("drop 0", "a b yes no"), ("facts", "none"), ("pin follows b a", "none"), ("pin open a b", "none"),
            ("pin possible a", "none"), ("unpin open a b", "none"), ("undo", "none"), ("redo", "none"), ("enter c x < x", "a c - no, b c - no, c a - yes, c b - yes"),
            ("undo 5", "a c no -, b c no -, c a yes -, c b yes -"), ("redo 5", "a c - no, b c - no, c a - yes, c b - yes"),
            ("remove c", "a c no -, b c no -, c a yes -, c b yes -"), ("follows a b", "no"), ("follows a a", "yes"), ("break b a", "none"), ("break a a", "none"))
        broken = Question(FRAME, (shell.desk()["a"],), shell.desk()["b"])
        self.assertIn(shell("break a b"), {str(situation) for situation in situations(FRAME, 0, 0, 9) if broken.is_broken_by(situation)}
                      | {str(shell.desk().paper("a", "b"))})
        self.assertIs(broken.is_broken_by(shell.desk().paper("a", "b")), True)

    def test_errors(self):
        shell = said("enter low x <= 3", "enter high x <= 5", "pin follows low high", "pin open high low", "pin possible low", "suppose [i < j]")
        self.assertEqual(len(shell), 6)
        old = (shell.desk(), len(shell))
        self.check(
            shell, ("remove low", "no"), ("enter low x <= 6", "refused follows low high"), ("suppose x < 0", "refused open high low"),
            ("enter low or()", "refused possible low"), ("unpin open low high", "no"), ("pin follows low high", "no"),
            ("pin open low low", "no"), ("pin open low no", "no"), ("pin possible no", "no"), ("unpin possible high", "no"), ("drop 1", "no"), ("drop 10", "no"),
            (f"drop {LONG}", "no"), ("undo 7", "nothing 7"), ("redo", "nothing 1"), ("redo 2", "nothing 2"), (f"undo {LONG}", f"nothing {LONG}"),
            ("remove x", "unknown x"), ("follows x y", "unknown x"), ("follows low y", "unknown y"), ("break y low", "unknown y"), ("show x", "unknown x"),
            (f"enter more {write_claim(FRAME, WIDE)}", "many 16"), (f"enter more {write_claim(FRAME, FAR)}", "many 1000"))
        for name in "abcdef":
            shell(f"enter {name} x <= 9")
        self.check(shell, ("enter more x <= 1", "many 8"), ("enter low x < 6", "refused open high low"))
        self.assertEqual((len(shell), len(shell.desk())), (12, 8))
        self.assertEqual(old[0].claims, {"high": read_claim(FRAME, "x <= 5"), "low": read_claim(FRAME, "x <= 3")})

    def test_what_is_no_command(self):
        shell = said("enter a x <= 3", "enter b x <= 4", "suppose [i < j]", "pin possible a")
        old = shell.desk()
        wrong = [
            "", " ", "x", "enter", "enter ", "enter c", "enter c ", "enter  c x <= 3", "enter c  x <= 3", "enter c x <= 3 ", " enter c x <= 3", "enter c x =< 3",
            "enter abcdefghi x <= 3", "enter C x <= 3", "enter c1 x <= 3", "enter c y <= 3", "enter x <= 3", "Enter c x <= 3", "enter\nc x <= 3", "enter c x <= 3\n",
            "suppose", "suppose ", "suppose  x <= 3", "suppose x <= 3 ", "suppose x", "supposes x <= 3", "remove", "remove ", "remove a ", "remove a b", "remove  a", "remove abcdefghi",
            "drop", "drop ", "drop a", "drop -1", "drop +0", "drop 00", "drop 01", "drop 0 ", "drop 0 0", "drop 1.0", "drop 0x", f"drop {LONG}0", "drop " + "9" * 11000, "undo ", "undo a", "undo -1",
            "undo 1 1", "undo 01", "undo  1", f"undo {LONG}1", "redo ", "redo x", "redo -0", "undo1", "pin", "pin ", "pin follows", "pin follows a", "pin follows a b c", "pin  follows a b",
            "pin follows  a b", "pin follows A b", "pin open a", "pin open abcdefghi a", "pin possible", "pin possible a b", "pin shut a", "pin a b", "unpin", "unpin possible", "unpin possible A",
            "unpin follows a", "unpin x a", "follows", "follows a", "follows a b c", "follows a B", "follows  a b", "break a", "break a b c", "break a 1", "show", "show a b", "show A", "show ",
            "names ", "names a", "facts 1", "facts ", "names\n", "all", "undo\n", f"suppose {'not(' * 12}x < 3{')' * 12}", "enter c not(", "enter c " + "not(" * 2500,
        ]
        for command in [*wrong, *not_names()]:
            with self.subTest(repr(command)[:40]):
                self.assertEqual(shell(command), "what")
        self.assertEqual([shell.desk() == old, len(shell), str(shell)], [True, 4, "shell of 4 commands"])
        # What is no command is told ahead of unknown names.
        self.check(shell, ("follows x Y", "what"), ("break x abcdefghi", "what"), ("pin follows x Y", "what"))

    def test_as_desks_do(self):
        """A shell does what a desk does that is told the same."""
        for seed in range(30):
            maker = Outlines(seed)
            shell, desk = Shell(PAIR), Desk(PAIR)
            answered = 0
            for _ in range(15):
                command, call = self.command(maker, desk)
                answer = shell(command)
                try:
                    news = call()
                except (ValueError, LookupError, OverflowError, ArithmeticError):
                    self.assertIn(answer.split(" ")[0], ("unknown", "refused", "many", "nothing", "no"))
                    continue
                answered += 1
                words = {True: "yes", False: "no", None: "-"}
                self.assertEqual(answer, ", ".join([f"{one} {other} {words[old]} {words[new]}" for one, other, old, new in news]) or "none")
                self.assertEqual(shell.desk(), desk)
            self.assertEqual(len(shell), answered)

    def command(self, maker, desk):
        kind = maker.random.randrange(9)
        names = [maker.random.choice(("p", "q", "r")) for _ in range(2)]
        claim, number = maker.claim(1), maker.random.randrange(3)
        text = write_claim(PAIR, claim)
        if kind < 3:
            return f"enter {names[0]} {text}", lambda: desk.enter(names[0], claim)
        if kind == 3:
            return f"remove {names[0]}", lambda: desk.remove(names[0])
        if kind == 4:
            return f"suppose {text}", lambda: desk.suppose(claim)
        if kind == 5:
            return f"drop {number}", lambda: desk.drop(number)
        if kind == 6:
            return f"pin open {names[0]} {names[1]}", lambda: desk.pin(("open", *names))
        if kind == 7:
            return f"undo {number}", lambda: desk.undo(many=number)
        return f"redo {number}", lambda: desk.redo(many=number)


class Objects(unittest.TestCase):
    def test_desk_is_a_twin(self):
        shell = said("enter a x <= 3", "enter b x <= 4", "undo")
        desk = shell.desk()
        self.assertEqual(desk, told({"a": read_claim(FRAME, "x <= 3")}))
        self.assertEqual(desk.redo(), (("a", "b", None, True), ("b", "a", None, False)))
        desk.remove("a")
        self.assertEqual([shell("names"), shell("redo"), shell("names")], ["a", "a b - yes, b a - no", "a b"])

    def test_told(self):
        self.assertEqual([len(Shell(FRAME)), str(Shell(FRAME)), Shell(FRAME).desk()], [0, "shell of 0 commands", Desk(FRAME)])
        for value in not_names():
            if value != FRAME:
                refusal(InvalidFrame, Shell, value)
        with self.assertRaises(TypeError):
            iter(Shell(FRAME))
        with self.assertRaises(TypeError):
            Shell(FRAME)("names", "names")

    def test_claims_with_alls(self):
        shell = Shell(FRAME)
        for name, claim in (("up", UP), ("low", LOW), ("upto", UPTO)):
            shell(f"enter {name} {write_claim(FRAME, claim)}")
            self.assertEqual(shell(f"show {name}"), write_claim(FRAME, claim))
        self.assertEqual([shell("follows up low"), shell("follows low up"), shell("names")], ["yes", "no", "low up upto"])


if __name__ == "__main__":
    unittest.main()
