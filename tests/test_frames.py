import string
import unittest

from cellsenough.base.frames import Frame, is_name
from cellsenough.errors import InvalidFrame, InvalidOperation, UnknownName
from samples import FRAME, SHOWN, WIDE, not_names, refusal

NAMES = [one + other for one in "bcdefg" for other in string.ascii_lowercase]


class Names(unittest.TestCase):
    def test_names(self):
        for value in ("a", "z", "ab", "abcdefgh", "zzzzzzzz", "aaaaaaaa"):
            with self.subTest(value):
                self.assertIs(is_name(value), True)
        for letter in string.ascii_lowercase:
            self.assertIs(is_name(letter), True)

    def test_no_names(self):
        for value in not_names():
            with self.subTest(repr(value)[:40]):
                self.assertIs(is_name(value), False)

    def test_each_other_character_is_refused(self):
        for code in range(256):
            if chr(code) not in string.ascii_lowercase:
                self.assertIs(is_name(chr(code)), False)
                self.assertIs(is_name("a" + chr(code) + "b"), False)


class Made(unittest.TestCase):
    def test_empty(self):
        frame = Frame((), (), ())
        self.assertEqual([frame.arrays, frame.lengths, frame.positions, frame.amounts], [(), (), (), ()])
        self.assertEqual([len(frame), str(frame)], [0, "- | - | -"])

    def test_greatest(self):
        arrays = tuple(zip(NAMES[:12], NAMES[12:24]))
        frame = Frame(arrays, tuple(NAMES[24:30]), tuple(NAMES[30:36]))
        self.assertEqual(len(frame), 36)
        self.assertEqual(frame.lengths, tuple(NAMES[12:24]))

    def test_too_many(self):
        refusal(InvalidFrame, Frame, tuple([(name, "n") for name in NAMES[:13]]), (), ())
        refusal(InvalidFrame, Frame, (), tuple(NAMES[:7]), ())
        refusal(InvalidFrame, Frame, (), (), tuple(NAMES[:7]))
        self.assertEqual(len(Frame(tuple([(name, "n") for name in NAMES[:12]]), (), ())), 13)
        self.assertEqual(len(Frame((), tuple(NAMES[:6]), ())), 6)
        self.assertEqual(len(Frame((), (), tuple(NAMES[:6]))), 6)

    def test_names_of_one_and_eight_letters(self):
        frame = Frame((("a", "abcdefgh"),), ("i",), ("xxxxxxxx",))
        self.assertEqual(str(frame), "a:abcdefgh | i | xxxxxxxx")
        refusal(InvalidFrame, Frame, (("a", "abcdefghi"),), (), ())
        refusal(InvalidFrame, Frame, (("abcdefghi", "n"),), (), ())
        refusal(InvalidFrame, Frame, (), ("iiiiiiiii",), ())
        refusal(InvalidFrame, Frame, (), (), ("xxxxxxxxx",))

    def test_arrays_can_share_a_length(self):
        frame = Frame((("b", "n"), ("a", "m"), ("c", "n")), (), ())
        self.assertEqual(frame.lengths, ("n", "m"))
        self.assertEqual(len(frame), 5)

    def test_all_other_names_are_different(self):
        wrong = [
            ((("a", "n"), ("a", "m")), (), ()), ((("a", "n"), ("a", "n")), (), ()), ((("a", "a"),), (), ()),
            ((("a", "b"), ("b", "n")), (), ()), ((("a", "n"),), ("a",), ()), ((("a", "n"),), ("n",), ()),
            ((("a", "n"),), (), ("a",)), ((("a", "n"),), (), ("n",)), ((), ("i", "i"), ()), ((), (), ("x", "x")),
            ((), ("i",), ("i",)),
        ]
        for parts in wrong:
            with self.subTest(parts):
                refusal(InvalidFrame, Frame, *parts)

    def test_wrong_kinds(self):
        for value in not_names():
            with self.subTest(repr(value)[:40]):
                if value != ():
                    refusal(InvalidFrame, Frame, value, (), ())
                    refusal(InvalidFrame, Frame, (), value, ())
                    refusal(InvalidFrame, Frame, (), (), value)
                refusal(InvalidFrame, Frame, (value,), (), ())
                refusal(InvalidFrame, Frame, ((value, "n"),), (), ())
                refusal(InvalidFrame, Frame, (("a", value),), (), ())
                refusal(InvalidFrame, Frame, (), (value,), ())
                refusal(InvalidFrame, Frame, (), (), ("y", value))

    def test_texts_and_lists_are_no_tuples(self):
        refusal(InvalidFrame, Frame, [("a", "n")], (), ())
        refusal(InvalidFrame, Frame, (["a", "n"],), (), ())
        refusal(InvalidFrame, Frame, ("an",), (), ())
        refusal(InvalidFrame, Frame, (("a",),), (), ())
        refusal(InvalidFrame, Frame, (("a", "n", "m"),), (), ())
        refusal(InvalidFrame, Frame, {"a": "n"}, (), ())
        refusal(InvalidFrame, Frame, (), ["i"], ())
        refusal(InvalidFrame, Frame, (), "ij", ())
        refusal(InvalidFrame, Frame, (), (), ["x"])
        refusal(InvalidFrame, Frame, (), (), "xy")


class Told(unittest.TestCase):
    def test_properties(self):
        self.assertEqual(WIDE.arrays, (("a", "n"), ("b", "m"), ("c", "n")))
        self.assertEqual(WIDE.positions, ("i", "j"))
        self.assertEqual(WIDE.amounts, ("x", "y"))
        self.assertEqual(WIDE.lengths, ("n", "m"))
        for name in ("arrays", "positions", "amounts", "lengths"):
            with self.assertRaises(AttributeError):
                setattr(WIDE, name, ())

    def test_length_of(self):
        self.assertEqual([WIDE.length_of(name) for name in "abc"], ["n", "m", "n"])
        for value in (*not_names(), "n", "m", "i", "x", "q"):
            with self.subTest(repr(value)[:40]):
                self.assertEqual(refusal(UnknownName, WIDE.length_of, value).wanted, value)

    def test_kind_of(self):
        kinds = {"a": "array", "b": "array", "c": "array", "n": "length", "m": "length", "i": "position",
                 "j": "position", "x": "value", "y": "value"}
        for name, kind in kinds.items():
            self.assertEqual(WIDE.kind_of(name), kind)
        for value in (*not_names(), "q", "abcdefgh"):
            with self.subTest(repr(value)[:40]):
                self.assertEqual(refusal(UnknownName, WIDE.kind_of, value).wanted, value)

    def test_is_fresh(self):
        for name in ("a", "n", "i", "x", "m"):
            self.assertIs(WIDE.is_fresh(name), False)
        for name in ("k", "aa", "abcdefgh"):
            self.assertIs(WIDE.is_fresh(name), True)
        for value in not_names():
            with self.subTest(repr(value)[:40]):
                self.assertIs(WIDE.is_fresh(value), False)

    def test_in(self):
        for name in ("a", "b", "c", "n", "m", "i", "j", "x", "y"):
            self.assertIs(name in WIDE, True)
        for value in (*not_names(), "k", "abcdefgh", ("a", "n"), ["a"]):
            with self.subTest(repr(value)[:40]):
                self.assertIs(value in WIDE, False)

    def test_len_and_str(self):
        self.assertEqual([len(FRAME), len(WIDE)], [5, 9])
        self.assertEqual(str(WIDE), "a:n b:m c:n | i j | x y")
        self.assertEqual(str(Frame((("b", "n"),), (), ("y", "x"))), "b:n | - | y x")
        self.assertEqual(str(Frame((), ("j", "i"), ())), "- | j i | -")

    def test_equality(self):
        twin = Frame((("a", "n"),), ("i", "j"), ("x",))
        self.assertIs(FRAME == twin, True)
        self.assertIs(FRAME != twin, False)
        others = [Frame((("a", "n"),), ("j", "i"), ("x",)), Frame((("a", "m"),), ("i", "j"), ("x",)),
                  Frame((("a", "n"),), ("i", "j"), ()), Frame((("a", "n"),), ("i",), ("x",)),
                  Frame((("b", "n"),), ("i", "j"), ("x",)), Frame((("a", "n"),), ("i", "x"), ("j",))]
        for other in [*others, *[value for value in not_names() if value is not FRAME], FRAME.arrays, str(FRAME)]:
            with self.subTest(repr(other)[:40]):
                self.assertIs(FRAME == other, False)
                self.assertIs(FRAME != other, True)
        self.assertIs(Frame((("a", "n"), ("b", "n")), (), ()) == Frame((("b", "n"), ("a", "n")), (), ()), False)
        self.assertIs(Frame((), (), ("x", "y")) == Frame((), (), ("y", "x")), False)

    def test_no_iteration(self):
        for frame in (FRAME, Frame((), (), ())):
            refusal(TypeError, iter, frame)
            refusal(TypeError, list, frame)


class More(unittest.TestCase):
    def test_with_names(self):
        frame = FRAME.with_names(arrays=(("b", "m"), ("c", "n")), positions=("p",), values=("y", "z"))
        self.assertEqual(frame, Frame((("a", "n"), ("b", "m"), ("c", "n")), ("i", "j", "p"), ("x", "y", "z")))
        self.assertEqual(str(FRAME), "a:n | i j | x")
        self.assertEqual(FRAME.with_names(), FRAME)
        self.assertEqual(FRAME.with_names(positions=("p",)), Frame((("a", "n"),), ("i", "j", "p"), ("x",)))
        self.assertEqual(FRAME.with_names(values=("p",)), Frame((("a", "n"),), ("i", "j"), ("x", "p")))

    def test_with_names_that_make_no_frame(self):
        refusal(InvalidFrame, FRAME.with_names, positions=("a",))
        refusal(InvalidFrame, FRAME.with_names, positions=("q", "q"))
        refusal(InvalidFrame, FRAME.with_names, arrays=(("n", "m"),))
        refusal(InvalidFrame, FRAME.with_names, values=("n",))
        refusal(InvalidFrame, FRAME.with_names, positions=("p", "q", "r", "s", "t"))
        refusal(InvalidFrame, FRAME.with_names, values=("p", "q", "r", "s", "t", "u"))
        refusal(InvalidFrame, FRAME.with_names, arrays=tuple([(name, "n") for name in NAMES[:12]]))
        self.assertEqual(len(FRAME.with_names(positions=("p", "q", "r", "s"))), 9)
        for value in not_names():
            if value != ():
                with self.subTest(repr(value)[:40]):
                    refusal(InvalidFrame, FRAME.with_names, arrays=value)
                    refusal(InvalidFrame, FRAME.with_names, positions=value)
                    refusal(InvalidFrame, FRAME.with_names, values=value)

    def test_renamed(self):
        self.assertEqual(FRAME.renamed({}), FRAME)
        self.assertEqual(FRAME.renamed({"i": "i"}), FRAME)
        self.assertEqual(FRAME.renamed({"i": "j", "j": "i"}), Frame((("a", "n"),), ("j", "i"), ("x",)))
        self.assertEqual(FRAME.renamed({"a": "x", "x": "n", "n": "a", "i": "k"}),
                         Frame((("x", "a"),), ("k", "j"), ("n",)))
        self.assertEqual(WIDE.renamed({"n": "l"}), Frame((("a", "l"), ("b", "m"), ("c", "l")), ("i", "j"), ("x", "y")))
        self.assertEqual(str(FRAME), "a:n | i j | x")

    def test_renamed_to_equal_names(self):
        refusal(InvalidOperation, FRAME.renamed, {"i": "j"})
        refusal(InvalidOperation, FRAME.renamed, {"i": "k", "j": "k"})
        refusal(InvalidOperation, FRAME.renamed, {"i": "a"})
        # With one length for both, this would still be a frame.
        refusal(InvalidOperation, WIDE.renamed, {"n": "m"})
        refusal(InvalidOperation, WIDE.renamed, {"n": "l", "m": "l"})

    def test_renamed_by_no_such_dict(self):
        for value in not_names():
            with self.subTest(repr(value)[:40]):
                if value != {}:
                    refusal(InvalidOperation, FRAME.renamed, value)
                refusal(InvalidOperation, FRAME.renamed, {"i": value})
        for key in (True, None, 0, "", "q", "A", ("i",), ()):
            with self.subTest(repr(key)):
                refusal(InvalidOperation, FRAME.renamed, {key: "k"})
                refusal(InvalidOperation, FRAME.renamed, {"i": "l", key: "k"})
        refusal(InvalidOperation, FRAME.renamed, (("i", "k"),))
        refusal(InvalidOperation, FRAME.renamed, ["i"])

    def test_arguments_stay_as_they_were(self):
        names = {"j": "q", "i": "p"}
        FRAME.renamed(names)
        self.assertEqual(list(names.items()), [("j", "q"), ("i", "p")])
        frame = FRAME.renamed(names)
        names["a"] = "b"
        self.assertEqual(str(frame), "a:n | p q | x")
        self.assertEqual(FRAME.renamed({"i": "p", "j": "q"}), frame)

    def test_unlike_a_situation(self):
        self.assertIs(FRAME == SHOWN, False)
        self.assertIs(FRAME == SHOWN.frame, True)


if __name__ == "__main__":
    unittest.main()
