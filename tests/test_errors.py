import unittest

from cellsenough import errors


class Classes(unittest.TestCase):
    def test_claim_error(self):
        self.assertEqual(errors.ClaimError.__bases__, (ValueError,))

    def test_direct_children_of_claim_error(self):
        names = ("InvalidFrame", "InvalidTerm", "InvalidClaim", "InvalidSituation", "InvalidQuestion",
                 "InvalidProgram", "InvalidWord", "InvalidOperation", "ParseError")
        for name in names:
            with self.subTest(name):
                self.assertEqual(getattr(errors, name).__bases__, (errors.ClaimError,))

    def test_children_of_built_in_classes(self):
        bases = {"InvalidNumber": IndexError, "UnknownName": KeyError, "NothingToUndo": LookupError,
                 "TooMany": OverflowError, "Refused": ArithmeticError}
        for name, base in bases.items():
            with self.subTest(name):
                self.assertEqual(getattr(errors, name).__bases__, (base,))

    def test_made_with_a_message(self):
        names = ("ClaimError", "InvalidFrame", "InvalidTerm", "InvalidClaim", "InvalidSituation", "InvalidQuestion",
                 "InvalidProgram", "InvalidWord", "InvalidOperation")
        for name in names:
            with self.subTest(name):
                self.assertEqual(str(getattr(errors, name)("some words")), "some words")


class Kept(unittest.TestCase):
    def test_what_is_kept(self):
        kept = {"ParseError": "at", "InvalidNumber": "given", "UnknownName": "wanted", "NothingToUndo": "many",
                "TooMany": "limit", "Refused": "claim"}
        for name, attribute in kept.items():
            for value in (7, None, "q", True, ("and", ())):
                with self.subTest(name, value=value):
                    told = getattr(getattr(errors, name)(value), attribute)
                    self.assertEqual(told, value)
                    self.assertIs(told.__class__, value.__class__)

    def test_what_is_kept_is_not_shared(self):
        for name, attribute in {"InvalidNumber": "given", "UnknownName": "wanted", "Refused": "claim"}.items():
            with self.subTest(name):
                inner = [1]
                value = {"q": (inner, [inner]), "r": [2]}
                error = getattr(errors, name)(value)
                self.assertEqual(getattr(error, attribute), {"q": ([1], [[1]]), "r": [2]})
                inner.append(3)
                value["r"].append(3)
                value["s"] = 4
                self.assertEqual(getattr(error, attribute), {"q": ([1], [[1]]), "r": [2]})


if __name__ == "__main__":
    unittest.main()
