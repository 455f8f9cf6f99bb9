import unittest

from cellsenough.errors import InvalidNumber, InvalidTerm, NothingToUndo, Refused, TooMany
from cellsenough.solve.rings import System, is_fitting, is_ring, tightest
from samples import LONG, not_integers, not_names, refusal
from test_rings import CHAIN, NO_POINTS, no_points, random_differences


def system_of(differences):
    system = System()
    for difference in differences:
        system.add(*difference)
    return system


class Systems(unittest.TestCase):
    def test_add(self):
        for seed in range(200):
            system = System()
            with self.subTest(seed):
                for one, other, number in random_differences(seed):
                    before = system.differences
                    added = before + ((one, other, number),)
                    known = tightest(before, one, other)
                    try:
                        self.assertEqual(system.add(one, other, number), known)
                    except Refused as error:
                        self.assertIs(is_ring(added, error.claim), True)
                        self.assertIn(len(before), error.claim)
                        self.assertEqual(system.differences, before)
                    else:
                        self.assertEqual(system.differences, added)
                    self.assertIs(is_fitting(system.differences, system.fitting), True)
                    self.assertEqual(len(system), len(system.differences))
                    self.assertEqual(system.bound(one, other), tightest(system.differences, one, other))

    def test_told(self):
        system = System()
        self.assertEqual([system.differences, system.fitting, len(system), str(system)],
                         [(), {"": 0}, 0, "system of 0 differences"])
        self.assertEqual([system.add(*difference) for difference in CHAIN], [None, None, None])
        self.assertEqual([system.add("j", "", 9), system.add("i", "j", 5), system.add("k", "k", 0)], [2, 5, 0])
        self.assertEqual(str(system), "system of 6 differences")
        self.assertEqual(list(system.fitting), ["", "i", "j", "k"])
        self.assertEqual([system.bound("i", "i"), system.bound("z", ""), system.bound("j", "i")], [0, None, -2])
        told = system.fitting
        told.clear()
        self.assertIs(is_fitting(system.differences, system.fitting), True)
        for name in ("differences", "fitting"):
            with self.assertRaises(AttributeError):
                setattr(system, name, ())

    def test_wrong(self):
        system = system_of(CHAIN)
        for value in no_points():
            with self.subTest(repr(value)[:60]):
                refusal(InvalidTerm, system.add, value, None, None)
                refusal(InvalidTerm, system.add, value, "i", 0)
                refusal(InvalidTerm, system.add, "i", value, None)
                refusal(InvalidTerm, system.bound, value, None)
                refusal(InvalidTerm, system.bound, value, "i")
                refusal(InvalidTerm, system.bound, "i", value)
        for value in not_integers():
            with self.subTest(repr(value)[:60]):
                self.assertEqual(refusal(InvalidNumber, system.add, "i", "j", value).given, value)
        self.assertEqual(system.differences, CHAIN)

    def test_refused(self):
        system = system_of(CHAIN)
        error = refusal(Refused, system.add, "i", "j", 1)
        self.assertIs(is_ring(CHAIN + (("i", "j", 1),), error.claim), True)
        self.assertEqual(refusal(Refused, system.add, "k", "k", -1).claim, (3,))
        self.assertEqual(system, system_of(CHAIN))

    def test_sixty(self):
        system = system_of([("i", "j", 60 - at) for at in range(60)])
        self.assertEqual(len(system), 60)
        self.assertEqual(refusal(TooMany, system.add, "i", "j", 0).limit, 60)
        # It would not fit either, but there are too many.
        refusal(TooMany, system.add, "j", "i", -LONG)
        refusal(InvalidNumber, system.add, "i", "j", None)
        refusal(InvalidTerm, system.add, "i", NO_POINTS[0], 0)
        system.undo()
        self.assertEqual(system.add("i", "j", 0), 2)
        self.assertEqual(len(system), 60)

    def test_undo(self):
        system = system_of(CHAIN)
        self.assertEqual(system.undo(many=0), ())
        self.assertEqual(system.undo(), (CHAIN[2],))
        self.assertEqual(system.undo(many=2), (CHAIN[1], CHAIN[0]))
        self.assertEqual([system.differences, len(system), system.undo(many=0)], [(), 0, ()])
        self.assertEqual(refusal(NothingToUndo, system.undo).many, 1)
        system.add(*CHAIN[0])
        self.assertEqual(refusal(NothingToUndo, system.undo, many=2).many, 2)
        self.assertEqual(refusal(NothingToUndo, system.undo, many=LONG).many, LONG)
        for value in (*not_integers(), -1, -LONG):
            with self.subTest(repr(value)[:60]):
                self.assertEqual(refusal(InvalidNumber, system.undo, many=value).given, value)
        self.assertEqual(system.differences, CHAIN[:1])
        # What was taken back does not count any more.
        self.assertIsNone(system.add("", "i", -9 + 5))

    def test_twin(self):
        system = system_of(CHAIN)
        twin = system.twin()
        self.assertEqual(twin, system)
        twin.add("k", "i", 0)
        system.undo()
        self.assertEqual([twin.differences, system.differences], [CHAIN + (("k", "i", 0),), CHAIN[:2]])

    def test_equality(self):
        system = system_of(CHAIN)
        self.assertIs(system == system_of(CHAIN), True)
        self.assertIs(system != system_of(CHAIN), False)
        for other in [system_of(CHAIN[::-1]), system_of(CHAIN[:2]), System(), CHAIN, *not_names()]:
            with self.subTest(repr(other)[:60]):
                self.assertIs(system == other, False)
                self.assertIs(system != other, True)
        refusal(TypeError, iter, system)


if __name__ == "__main__":
    unittest.main()
