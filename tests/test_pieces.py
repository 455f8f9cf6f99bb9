import unittest

from cellsenough.base.frames import Frame
from cellsenough.code.pieces import MAX_PIECES, MAX_WRITES, pieces
from cellsenough.code.program import Outline, Program
from cellsenough.decide.follows import paper
from cellsenough.errors import InvalidOperation, InvalidProgram, InvalidSituation, TooMany
from cellsenough.logic.claims import all_between, inside_claim, replaced
from cellsenough.solve.questions import Question
from cellsenough.world.situations import Situation
from outlines import FILLED, I, J, LOW, N, SAME, TO_END, X, ZERO, Outlines, behind_one_another, cell, greatest, insertion
from outlines import le, lt, refused_sizes
from samples import ATOM, FRAME, LONG, SHOWN, UPTO, not_names, refusal
from test_program import FILL, LESS
from test_truth import PAIR

NEVER = ("or", ())
IF = ("if", LESS, (), ())


def bare(*rows, frame=FRAME, before=(), notes=None, after=()):
    """The outline with these rows, without notes unless they are told."""
    program = Program(frame, rows)
    return Outline(program, before=before, notes=tuple([() for _ in program.conditions]) if notes is None else notes, after=after)


def only(*rows, **more):
    """The only piece of rows without conditions."""
    told = pieces(bare(*rows, **more))
    assert len(told) == 1
    return told[0]


def told_of(piece):
    return (piece.start, piece.stop, piece.answers, piece.trail)


def by_hand(program):
    """All pieces of a program as tuples (start, stop, answers, trail), by going through its rows."""
    count, loops, found = [0], [], []

    def numbered(rows):
        told = []
        for row in rows:
            number = count[0]
            count[0] += 1
            if row[0] == "while":
                loops.append(number)
            told.append((number, row[0], [numbered(inner) for inner in row[2:]] if row[0] in ("if", "while") else []))
        return told

    def ahead(items, behind):
        if not items:
            return behind()
        (number, word, inner), rest = items[0], items[1:]
        if word == "while":
            return [(loops.index(number), (), ())]
        if word == "if":
            found = []
            for answer in (False, True):
                for stop, answers, trail in ahead(inner[1 - answer], lambda: ahead(rest, behind)):
                    found.append((stop, (answer, *answers), (number, *trail)))
            return found
        return [(stop, answers, (number, *trail)) for stop, answers, trail in ahead(rest, behind)]

    def from_loops(items, behind):
        for at, (number, word, inner) in enumerate(items):
            rest = lambda at=at: ahead(items[at + 1:], behind)
            again = lambda number=number: [(loops.index(number), (), ())]
            if word == "while":
                for answer, told in ((False, rest()), (True, ahead(inner[0], again))):
                    for stop, answers, trail in told:
                        found.append((loops.index(number), stop, (answer, *answers), (number, *trail)))
            for part in inner:
                from_loops(part, again if word == "while" else rest)

    items = numbered(program.rows)
    for stop, answers, trail in ahead(items, lambda: [(-1, (), ())]):
        found.append((-1, stop, answers, trail))
    from_loops(items, lambda: [(-1, (), ())])
    return sorted(found, key=lambda told: (told[0], told[2]))


def run_by_hand(piece, situation):
    """What `carried` tells, and the rows of the arrays behind each write."""
    answers = list(piece.answers)
    written = []

    def outside(*terms):
        return any(len(term) == 4 and not 0 <= situation.position_at(term[1:3]) < len(situation.rows[term[0]]) for term in terms)

    def asked(claim):
        if claim[0] == "val" and outside(*claim[2:]):
            raise LookupError
        if claim[0] in ("pos", "val"):
            return situation.holds(claim)
        if claim[0] == "not":
            return not asked(claim[1])
        return all(asked(part) for part in claim[1]) if claim[0] == "and" else any(asked(part) for part in claim[1])

    for number in piece.trail:
        row = piece.outline.program.row(number)
        if row[0] in ("if", "while"):
            try:
                if asked(row[1]) is not answers.pop(0):
                    return None, written
            except LookupError:
                return ("fault", number), written
        elif row[0] == "move":
            situation = situation.with_number(row[1], situation.position_at(row[2]))
        elif outside(row[-1]) or (row[0] == "write" and outside((*row[1:4], 0))):
            return ("fault", number), written
        elif row[0] == "keep":
            situation = situation.with_number(row[1], situation.value_at(row[2]))
        else:
            situation = situation.with_cell(row[1], situation.position_at(row[2:4]), situation.value_at(row[4]))
            written.append(situation.rows[row[1]])
    return ("end", situation), written


class Ways(unittest.TestCase):
    def test_fill(self):
        self.assertEqual([told_of(piece) for piece in pieces(FILLED)],
                         [(-1, 0, (), (0,)), (0, -1, (False,), (1,)), (0, 0, (True,), (1, 2, 3))])
        self.assertEqual([MAX_PIECES, MAX_WRITES], [64, 6])

    def test_no_rows_and_no_loops(self):
        self.assertEqual([told_of(piece) for piece in pieces(bare())], [(-1, -1, (), ())])
        self.assertEqual(str(pieces(bare())[0]), "piece from start to end: 0 rows")
        told = pieces(bare(("move", "i", N), ("if", LESS, (("move", "j", I),), ())))
        self.assertEqual([told_of(piece) for piece in told], [(-1, -1, (False,), (0, 1)), (-1, -1, (True,), (0, 1, 2))])

    def test_a_loop_in_a_loop(self):
        told = [told_of(piece) for piece in pieces(insertion())]
        self.assertEqual(told, [(-1, 0, (), (0,)), (0, -1, (False,), (1,)), (0, 1, (True,), (1, 2, 3)),
                                (1, 0, (False,), (4, 7, 8)), (1, 1, (True,), (4, 5, 6))])

    def test_loops_behind_one_another_and_at_the_beginning(self):
        told = [told_of(piece) for piece in pieces(behind_one_another())]
        self.assertEqual(told, [(-1, 0, (), (0,)), (0, 1, (False,), (1, 4)), (0, 0, (True,), (1, 2, 3)),
                                (1, -1, (False,), (5,)), (1, 1, (True,), (5, 6, 7))])
        told = [told_of(piece) for piece in pieces(bare(("while", LESS, ()), ("while", ATOM, ())))]
        self.assertEqual(told, [(-1, 0, (), ()), (0, 1, (False,), (0,)), (0, 0, (True,), (0,)),
                                (1, -1, (False,), (1,)), (1, 1, (True,), (1,))])

    def test_ifs_in_loops(self):
        told = [told_of(piece) for piece in pieces(greatest())]
        self.assertEqual(told, [(-1, 0, (), (0, 1)), (0, -1, (False,), (2,)), (0, 0, (True, False), (2, 3, 5)),
                                (0, 0, (True, True), (2, 3, 4, 5))])

    def test_a_loop_in_an_if(self):
        told = [told_of(piece) for piece in pieces(bare(("if", LESS, (("while", ATOM, ()),), ()), ("move", "i", N)))]
        self.assertEqual(told, [(-1, -1, (False,), (0, 2)), (-1, 0, (True,), (0,)), (0, -1, (False,), (1, 2)), (0, 0, (True,), (1,))])

    def test_random(self):
        many = 0
        for seed in range(400):
            outline = Outlines(seed).outline()
            told = refused_sizes(pieces, outline)
            if told is not None:
                many += len(told)
                with self.subTest(seed):
                    self.assertEqual([told_of(piece) for piece in told], by_hand(outline.program))
        self.assertGreater(many, 800)


class Told(unittest.TestCase):
    def test_turn(self):
        turn = pieces(FILLED)[2]
        self.assertEqual(turn.outline, FILLED)
        self.assertEqual(turn.frame, FRAME.with_names(arrays=(("wa", "n"),)))
        self.assertEqual([turn.claims, turn.goals], [FILLED.notes[0], FILLED.notes[0]])
        guard = ("or", (("pos", "<=", ("k", 0), ("i", -1)), ("pos", "<=", ("i", 1), ("k", 0))))
        rest = ("all", ("k",), guard, ("val", "==", cell("k", array="wa"), cell("k")))
        self.assertEqual(turn.facts, (*FILLED.notes[0], LESS, ("val", "==", cell("i", array="wa"), X), rest))
        self.assertEqual(turn.ends, {"a": "wa", "i": ("i", 1), "j": J, "x": X})
        self.assertEqual(list(turn.ends), ["a", "i", "j", "x"])
        after = all_between(turn.frame, ZERO, I, "==", cell("k", array="wa"), X)
        kinds = [kind for kind, _ in turn.questions()]
        self.assertEqual(kinds, [("inside", 2), ("goal", 0), ("goal", 1), ("goal", 2)])
        questions = [question for _, question in turn.questions()]
        self.assertEqual(questions[0], Question(turn.frame, turn.facts[:4], inside_claim(turn.frame, "a", I)))
        self.assertEqual(questions[1:], [Question(turn.frame, turn.facts, claim) for claim in
                                         (after, le(ZERO, ("i", 1)), le(("i", 1), N))])
        for question in questions:
            same = Question(turn.frame, question.claims, question.goal)
            self.assertEqual([question.members, question.few, question.fresh], [same.members, same.few, same.fresh])
        for question, same in zip(turn.goal_questions(), questions[1:]):
            self.assertEqual([question, question.members, question.fresh], [same, same.members, same.fresh])

    def test_claims_and_goals(self):
        outline = Outline(FILL, before=(UPTO,), notes=((SAME, TO_END),), after=(LOW,))
        told = [(piece.claims, piece.goals) for piece in pieces(outline)]
        notes = (SAME, TO_END)
        self.assertEqual(told, [((UPTO,), notes), (notes, (LOW,)), (notes, notes)])
        self.assertEqual(pieces(outline)[1].facts, (SAME, TO_END, ("not", LESS)))

    def test_terms_in_terms_of_the_beginning(self):
        rows = (("move", "i", ("j", 2)), ("keep", "x", cell("i", 1, 3)), ("write", "a", "i", -1, ("x", 4)), ("move", "j", ("i", 5)),
                ("keep", "x", cell("j")), ("if", ("val", "<", ("x", 1), cell("i")), (), ()), ("write", "a", "j", 0, cell("", 0, 9)))
        claim = ("and", (("pos", "<", I, ("j", 1)), ("val", "<", ("x", 7), cell("j", 1, 2))))
        piece = pieces(bare(*rows, after=(claim,)))[1]
        self.assertEqual(piece.ends, {"a": "wb", "i": ("j", 2), "j": ("j", 7), "x": ("wa", "j", 7, 0)})
        here = {"i": ("j", 2), "j": ("j", 7)}
        facts = piece.facts
        self.assertEqual(facts[0], ("val", "==", ("wa", "j", 1, 0), ("a", "j", 3, 7)))
        self.assertEqual(facts[1][2], ("or", (le(("k", 0), ("j", 0)), le(("j", 2), ("k", 0)))))
        self.assertEqual(facts[1][3], ("val", "==", ("wa", "k", 0, 0), ("a", "k", 0, 0)))
        self.assertEqual(facts[2], ("val", "<", ("wa", "j", 7, 1), ("wa", "j", 2, 0)))
        self.assertEqual(facts[3], ("val", "==", ("wb", "j", 7, 0), ("wa", "", 0, 9)))
        self.assertEqual(facts[4][3], ("val", "==", ("wb", "k", 0, 0), ("wa", "k", 0, 0)))
        wanted = ("and", (replaced(piece.frame, claim[1][0], here), ("val", "<", ("wa", "j", 7, 7), ("wb", "j", 8, 2))))
        self.assertEqual(piece.questions()[-1], (("goal", 0), Question(piece.frame, facts, wanted)))
        asked = [(kind[1], len(question.claims), question.goal) for kind, question in piece.questions()[:-1]]
        places = [(1, 0, ("j", 3)), (2, 0, ("j", 1)), (4, 2, ("j", 7)), (5, 2, ("j", 2)), (6, 3, ZERO), (6, 3, ("j", 7))]
        self.assertEqual(asked, [(row, many, inside_claim(FRAME, "a", place)) for row, many, place in places])

    def test_cells_of_conditions(self):
        first, second, third = [("val", "<", cell("i", shift), ("a", "j", shift, 1)) for shift in range(3)]
        condition = ("and", (ATOM, ("or", (first, ("not", ("and", (("pos", "<", I, J), second))), third)), first))
        piece = pieces(bare(("if", condition, (), ()), before=(UPTO,)))[1]
        inner = ("not", ("and", (("pos", "<", I, J), second)))
        ahead = {0: (ATOM,), 1: (ATOM, ("not", first), ("pos", "<", I, J)), 2: (ATOM, ("not", first), ("not", inner)),
                 3: (ATOM, condition[1][1])}
        cells = [(0, I), (0, J), (1, ("i", 1)), (1, ("j", 1)), (2, ("i", 2)), (2, ("j", 2)), (3, I), (3, J)]
        wanted = [(("inside", 0), Question(FRAME, (UPTO, *ahead[at]), inside_claim(FRAME, "a", place))) for at, place in cells]
        self.assertEqual(list(piece.questions()), wanted)
        self.assertEqual([piece.facts for piece in pieces(bare(("if", condition, (), ())))], [(("not", condition),), (condition,)])

    def test_parts_that_are_needed_in_versions(self):
        rows = (("move", "i", ("i", 1)), ("write", "a", "i", 0, X), ("if", ("or", (LESS, ("val", "<", cell("i"), X))), (), ()))
        kind, question = pieces(bare(*rows))[0].questions()[-1]
        self.assertEqual([kind, question.claims[-1]], [("inside", 2), ("not", lt(("i", 1), N))])
        self.assertEqual(question.goal, inside_claim(FRAME, "a", ("i", 1)))

    def test_names_of_versions(self):
        frame = Frame((("wa", "wc"), ("k", "wc")), ("wd", "kk"), ("we",))
        own = ("all", ("wb", "wg"), ("and", ()), ("val", "<=", ("k", "wb", 0, 0), ("k", "wg", 0, 0)))
        rows = [("write", "k", "wd", shift, ("we", 0)) for shift in range(3)]
        claims = {"before": (own,)}, {"after": (("not", own),)}, {"notes": ((("and", (own,)),),)}
        for more in claims:
            loop = () if "notes" not in more else (("while", ("or", ()), ()),)
            piece = pieces(bare(*rows, *loop, frame=frame, **more))[0]
            self.assertEqual(piece.frame.arrays[2:], (("wf", "wc"), ("wh", "wc"), ("wi", "wc")))
            self.assertEqual([fact[1] for fact in piece.facts if fact[0] == "all" and fact != own], [("kkk",)] * 3)
            self.assertEqual([piece.ends["k"], piece.ends["wa"]], ["wi", "wa"])
        plain = only(*rows, frame=frame)
        self.assertEqual(plain.frame.arrays[2:], (("wb", "wc"), ("wf", "wc"), ("wg", "wc")))

    def test_frames_that_leave_few_names(self):
        ones = ["k" * many for many in range(1, 9)]
        frame = Frame((("a", "n"),), tuple(ones[:6]), tuple(ones[6:]))
        self.assertEqual(only(("move", "k", ("kk", 1)), frame=frame).ends["k"], ("kk", 1))
        frame = Frame((("a", "n"),), tuple(ones[:6]), tuple(ones[7:]))
        self.assertEqual(only(("write", "a", "k", 0, ("", 0)), frame=frame).facts[1][1], (ones[6],))
        # Behind wz.
        taken = tuple([("all", (f"w{letter}",), ("and", ()), ("or", ())) for letter in "abcdefghijklmnopqrstuvwxyz"])
        self.assertEqual(only(("write", "a", "i", 0, X), before=(("and", taken[1:]),)).ends["a"], "wa")
        self.assertEqual(only(("write", "a", "i", 0, X), before=(("and", taken[:-1]),)).ends["a"], "wz")
        self.assertEqual(only(("write", "a", "i", 0, X), before=(("and", taken),)).ends["a"], "waa")

    def test_versions_have_the_lengths_of_their_arrays(self):
        piece = only(("write", "b", "i", 0, X), ("write", "a", "i", 0, X), ("write", "b", "i", 0, X), frame=PAIR)
        self.assertEqual(piece.frame.arrays, (("a", "n"), ("b", "m"), ("wa", "m"), ("wb", "n"), ("wc", "m")))
        self.assertEqual([piece.ends["a"], piece.ends["b"]], ["wb", "wc"])

    def test_right_ones(self):
        for outline in (FILLED, insertion(), greatest(), behind_one_another()):
            self.assertEqual([piece.is_right() for piece in pieces(outline)], [True for _ in pieces(outline)])
        told = pieces(FILLED.with_notes(0, (SAME,)))
        self.assertEqual([piece.is_right() for piece in told], [True, True, False])

    def test_too_large_questions(self):
        wide = tuple([("val", "<=", cell("i", shift), X) for shift in range(1, 18)])
        piece = only(after=(ATOM, ("and", wide)))
        self.assertEqual(refusal(TooMany, piece.is_right).limit, 16)
        # The first question breaks, but all have to be small.
        far = only(after=(NEVER, le(("i", 400), J)))
        self.assertEqual(refusal(TooMany, far.is_right).limit, 1000)

    def test_equality_and_text(self):
        one, other = pieces(FILLED), pieces(Outline(FILL, notes=FILLED.notes, after=(LOW,)))
        self.assertEqual(one, other)
        for at, piece in enumerate(one):
            self.assertEqual([piece == part for part in one], [at == index for index in range(3)])
            for value in (*not_names(), None, FILLED, FILL):
                self.assertIs(piece == value, False)
                self.assertIs(piece != value, True)
        self.assertFalse(one[0] == pieces(FILLED.with_notes(0, ()))[0])
        self.assertEqual([str(piece) for piece in one],
                         ["piece from start to 0: 1 rows", "piece from 0 to end: 1 rows", "piece from 0 to 0: 3 rows"])
        with self.assertRaises(TypeError):
            iter(one[0])

    def test_nothing_is_shared(self):
        turn = pieces(FILLED)[2]
        turn.ends.clear()
        self.assertEqual(turn.ends["a"], "wa")
        for name in ("outline", "start", "stop", "answers", "trail", "frame", "claims", "goals", "facts", "ends"):
            with self.assertRaises(AttributeError):
                setattr(turn, name, ())


class Carried(unittest.TestCase):
    def test_fill(self):
        first, last, turn = pieces(FILLED)
        self.assertEqual(turn.carried(SHOWN), ("end", SHOWN.with_cell("a", 1, 5).with_number("i", 2)))
        self.assertEqual([last.carried(SHOWN), last.carried(SHOWN.with_number("i", 3))], [None, ("end", SHOWN.with_number("i", 3))])
        self.assertEqual([turn.carried(SHOWN.with_number("i", -1)), turn.carried(SHOWN.with_number("i", 3))], [("fault", 2), None])
        self.assertEqual(first.carried(SHOWN), ("end", SHOWN.with_number("i", 0)))
        lifted = turn.lifted(SHOWN)
        self.assertEqual([lifted.frame, lifted.rows], [turn.frame, {"a": (4, 0, 7), "wa": (4, 5, 7)}])
        self.assertEqual([lifted.positions, lifted.amounts], [SHOWN.positions, SHOWN.amounts])
        for piece, situation in ((turn, SHOWN.with_number("i", -1)), (last, SHOWN)):
            refusal(InvalidOperation, piece.lifted, situation)

    def test_wrong_situations(self):
        turn = pieces(FILLED)[2]
        for value in (*[value for value in not_names() if value != SHOWN], turn.lifted(SHOWN), FILLED):
            refusal(InvalidSituation, turn.carried, value)
            refusal(InvalidSituation, turn.lifted, value)

    def test_a_fault_ahead_of_another_answer(self):
        told = pieces(bare(("if", ("val", "<", cell("i"), X), (), ()), ("write", "a", "j", 0, X)))
        outside = SHOWN.with_number("i", 7)
        self.assertEqual([piece.carried(outside) for piece in told], [("fault", 0), ("fault", 0)])
        behind = SHOWN.with_number("j", -1)
        self.assertEqual([piece.carried(behind) for piece in told], [None, ("fault", 1)])

    def test_random(self):
        counted = {"end": 0, "fault": 0, None: 0, "broken": 0}
        for seed in range(350):
            maker = Outlines(seed)
            told = refused_sizes(pieces, maker.outline())
            for piece in told or ():
                for _ in range(6):
                    situation = maker.situation()
                    with self.subTest(seed, piece=str(piece), situation=str(situation)):
                        self.check(piece, situation, counted)
        self.assertGreater(min(counted.values()), 100)

    def check(self, piece, situation, counted):
        wanted, written = run_by_hand(piece, situation)
        found = piece.carried(situation)
        self.assertEqual(found, wanted)
        counted[None if found is None else found[0]] += 1
        if found is None or found[0] == "fault":
            refusal(InvalidOperation, piece.lifted, situation)
            return
        lifted = piece.lifted(situation)
        many = len(piece.outline.frame.arrays)
        self.assertEqual(lifted.for_frame(piece.outline.frame), situation)
        self.assertEqual([lifted.rows[name] for name, _ in piece.frame.arrays[many:]], written)
        for name in piece.ends:
            if piece.outline.frame.kind_of(name) == "array":
                self.assertEqual(lifted.rows[piece.ends[name]], found[1].rows[name])
            elif piece.outline.frame.kind_of(name) == "position":
                self.assertEqual(lifted.position_at(piece.ends[name]), found[1].positions[name])
            else:
                self.assertEqual(lifted.value_at(piece.ends[name]), found[1].amounts[name])
        are_claims = all(situation.holds(claim) for claim in piece.claims)
        self.assertTrue(all(lifted.holds(fact) for fact in piece.facts[len(piece.claims):]))
        for (kind, number), question in piece.questions():
            if kind == "goal":
                is_false = not found[1].holds(piece.goals[number])
                self.assertIs(question.is_broken_by(lifted), are_claims and is_false)
                counted["broken"] += are_claims and is_false
            else:
                self.assertIs(question.is_broken_by(lifted), False)


class Decided(unittest.TestCase):
    def test_random(self):
        """What breaks a question is carried to a fault or to a false goal; right pieces carry nothing to these."""
        counted = {"right": 0, "inside": 0, "goal": 0}
        for seed in range(260):
            maker = Outlines(seed)
            for piece in refused_sizes(pieces, maker.outline()) or ():
                with self.subTest(seed, piece=str(piece)):
                    self.check(piece, maker, counted)
        self.assertGreater(min(counted.values()), 60)

    def check(self, piece, maker, counted):
        told = refused_sizes(lambda: [(kind, question, paper(question)) for kind, question in piece.questions()])
        if told is None:
            refusal(TooMany, piece.is_right)
            return
        broken = [(kind, shown) for kind, _, (word, shown) in told if word == "broken"]
        self.assertIs(piece.is_right(), broken == [])
        is_faulty = any(kind[0] == "inside" for kind, _ in broken)
        for kind, shown in broken:
            found = piece.carried(shown.for_frame(piece.outline.frame))
            if kind[0] == "inside":
                counted["inside"] += 1
                self.assertEqual(found[0], "fault")
                self.assertLessEqual(piece.trail.index(found[1]), piece.trail.index(kind[1]))
            elif not is_faulty:
                counted["goal"] += 1
                self.assertEqual(found[0], "end")
                self.assertIs(found[1].holds(piece.goals[kind[1]]), False)
        for _ in range(4):
            situation = maker.situation()
            if broken == [] and all(situation.holds(claim) for claim in piece.claims):
                counted["right"] += 1
                found = piece.carried(situation)
                if found is not None:
                    self.assertEqual(found[0], "end")
                    self.assertTrue(all(found[1].holds(goal) for goal in piece.goals))


class Limits(unittest.TestCase):
    def test_wrong_outlines(self):
        for value in (*not_names(), FILL):
            refusal(InvalidProgram, pieces, value)

    def arrays(self, many):
        return Frame(tuple([("a" + letter, "n") for letter in "abcdefghijkl"[:many]]), ("i", "j"), ("x",))

    def writes(self, many, array="aa"):
        return [("write", array, "i", shift, X) for shift in range(many)]

    def test_twelve_arrays(self):
        self.assertEqual(len(only(*self.writes(6), frame=self.arrays(6)).frame.arrays), 12)
        self.assertEqual(len(only(frame=self.arrays(12)).frame.arrays), 12)
        refusal(InvalidOperation, pieces, bare(*self.writes(6), frame=self.arrays(7)))
        refusal(InvalidOperation, pieces, bare(*self.writes(1), frame=self.arrays(12)))

    def test_six_writes(self):
        only(*self.writes(6), frame=self.arrays(1))
        for many in (7, 11):
            self.assertEqual(refusal(TooMany, pieces, bare(*self.writes(many), frame=self.arrays(1))).limit, 6)
        # Thirteen arrays are told ahead of seven writes.
        refusal(InvalidOperation, pieces, bare(*self.writes(12), frame=self.arrays(1)))
        # Four in each way of an if, or in two loops, are not seven on a piece.
        four = tuple(self.writes(4))
        self.assertEqual(len(pieces(bare(("if", LESS, four, four), frame=self.arrays(1)))), 2)
        self.assertEqual(len(pieces(bare(*[("while", LESS, four), *four[:2]] * 2, frame=self.arrays(1)))), 5)
        refusal(TooMany, pieces, bare(("if", LESS, four, four), *four, frame=self.arrays(1)))
        self.assertEqual(len(pieces(bare(("while", ATOM, (*four, ("while", LESS, ()), *four)), frame=self.arrays(1)))), 5)

    def test_sixty_four_pieces(self):
        self.assertEqual(len(pieces(bare(*[IF] * 6))), 64)
        for rows in ([("if", LESS, (IF,) * 6, ())], [IF] * 7, [IF] * 24, [IF] * 6 + [("while", LESS, ())]):
            self.assertEqual(refusal(TooMany, pieces, bare(*rows)).limit, 64)
        # More than six writes are told first, numbers that are too long later.
        self.assertEqual(refusal(TooMany, pieces, bare(*[IF] * 7, *[("write", "a", "i", 0, X)] * 7)).limit, 6)
        self.assertEqual(refusal(TooMany, pieces, bare(*[IF] * 7, *[("move", "i", ("i", LONG))] * 2)).limit, 64)
        far = ("if", ("val", "<", X, cell("i", 5)), (), ())
        self.assertEqual([len(piece.questions()) for piece in pieces(bare(*[far] * 5))], [5] * 32)

    def test_forty_given_claims(self):
        for more, is_right in ((40, True), (41, False)):
            condition = ("and", (*[ATOM] * more, ("val", "<", X, cell("i"))))
            for word in ("and", "or"):
                outline = bare(("if", (word, condition[1]), (), ()))
                if is_right:
                    self.assertEqual([len(piece.questions()[0][1]) for piece in pieces(outline)], [40, 40])
                else:
                    refusal(InvalidOperation, pieces, outline)
        outline = bare(("if", ("and", (*[ATOM] * 38, ("val", "<", X, cell("i")))), (), ()), before=(ATOM, ATOM))
        self.assertEqual(len(pieces(outline)), 2)
        refusal(InvalidOperation, pieces, Outline(outline.program, before=(ATOM,) * 3, notes=()))
        # A part without a cell asks nothing.
        self.assertEqual(len(pieces(bare(("if", ("and", (ATOM,) * 60), (), ())))), 2)

    def test_numbers_that_are_too_long(self):
        far = ("move", "i", ("i", LONG))
        only(far)
        for rows in ((far, ("move", "i", ("i", 1))), (far, far), (far, ("move", "j", ("i", 1))),
                     (("keep", "x", ("x", LONG)), ("keep", "x", ("x", 1))), (far, ("keep", "x", cell("i", 1))),
                     (far, ("if", lt(("i", 1), J), (), ())), (("write", "a", "i", LONG, X),), (("write", "a", "i", -LONG, X),),
                     (far, ("write", "a", "i", 0, X)), (("keep", "x", ("x", LONG)), ("write", "a", "i", 0, ("x", 1)))):
            refusal(InvalidOperation, pieces, bare(*rows))
        for claim in (lt(("i", 1), J), ("not", ("val", "<", cell("i", 1), X)), all_between(FRAME, ("i", 1), J, "<", X, X)):
            refusal(InvalidOperation, pieces, bare(far, after=(claim,)))
            only(far, before=(claim,))
        only(("write", "a", "i", LONG - 1, X))
        only(("write", "a", "i", 1 - LONG, X))

    def test_very_long_numbers_are_carried(self):
        piece = only(("keep", "x", ("x", LONG)), ("write", "a", "i", 0, X))
        lifted = piece.lifted(SHOWN.with_number("x", LONG))
        self.assertEqual([lifted.rows["wa"], piece.carried(SHOWN.with_number("x", LONG))[1].amounts], [(4, 2 * LONG, 7), {"x": 2 * LONG}])


if __name__ == "__main__":
    unittest.main()
