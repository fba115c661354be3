"""Points 3 and 10: names, types and signatures."""

import unittest

from lacuna.terms import is_signature, is_type

from tests.samples import A, AA, FA, O, SIGNATURE

RESERVED = ("con", "rule", "ask", "if", "true", "some", "all", "given", "same", "match", "steps", "many", "height")
GOOD_NAMES = ("a", "z", "o", "ab", "abcdefgh", "zzzzzzzz", "equal", "and", "or", "cons", "oo", "iff", "heights", "mat")
BAD_NAMES = RESERVED + (
    "", "abcdefghi", "a" * 50, "A", "aB", "Ab", "a1", "1", "a_", "_", "a b", " a", "a ", "a\n", "\n", ".", ".p", "a.",
    "\u00e9", "\u00df", "\u0131", "\uff41", "a'", "-", "@", "`", "{",
)
NO_NAMES = (None, True, False, 0, 1, -1, (), ("a",), ((), "a"))
NO_TYPES = (
    None, True, False, 0, 7, "", "a", "aa", (), ("a",), ((),), ((), "a", "a"), ((), "a", ()), ("a", ()), ("", "a"),
    ("a", "a"), (None, "a"), (0, "a"), (False, "a"), (("a",), "a"), (((),), "a"), (((), "a"), "a"), ((None,), "a"),
    ((A, "a"), "a"), ((A, A, 1), "a"), ((True,), "a"), ((((), "a", "a"),), "a"),
)


def nested(kind, deep):
    """A type with the given one as its argument, so deep."""
    for _ in range(deep):
        kind = ((kind,), "a")
    return kind


class Types(unittest.TestCase):
    def test_names_of_sorts(self):
        for name in GOOD_NAMES:
            with self.subTest(name=name):
                self.assertIs(is_type(((), name)), True)
        for name in BAD_NAMES + NO_NAMES:
            with self.subTest(name=name):
                self.assertIs(is_type(((), name)), False)
                self.assertIs(is_type(((A,), name)), False)
                self.assertIs(is_type(((A, ((), name), A), "a")), False)
                self.assertIs(is_type(nested(((A,), name), 5)), False)

    def test_arguments(self):
        for kind in (A, AA, FA, ((A, AA, FA), "b"), ((((AA, FA), "c"),), "a")):
            with self.subTest(kind=kind):
                self.assertIs(is_type(kind), True)

    def test_the_sort_of_formulas(self):
        self.assertIs(is_type(O), True)
        self.assertIs(is_type(((A, AA), "o")), True)
        self.assertIs(is_type(((O,), "o")), False)
        self.assertIs(is_type(((O,), "a")), False)
        self.assertIs(is_type(((A, O), "a")), False)
        self.assertIs(is_type(((O, A), "a")), False)
        self.assertIs(is_type(((((A,), "o"),), "a")), False)
        self.assertIs(is_type(((((A, ((O,), "a")), "a"),), "o")), False)
        for deep in range(1, 20):
            self.assertIs(is_type(nested(O, deep)), False)
            self.assertIs(is_type(nested(((A,), "o"), deep)), False)

    def test_what_is_none(self):
        for value in NO_TYPES:
            with self.subTest(value=value):
                self.assertIs(is_type(value), False)
                self.assertIs(is_type(((value,), "a")), False)
                self.assertIs(is_type(((A, value), "a")), False)

    def test_beyond_the_limits(self):
        self.assertIs(is_type(nested(A, 49)), True)
        self.assertIs(is_type(nested(((A,), "b1"), 48)), False)
        self.assertIs(is_type(((A,) * 500, "a")), True)
        self.assertIs(is_type(((A,) * 499 + (O,), "a")), False)
        self.assertIs(is_type(((((A,) * 6, "a"),) * 6, "a")), True)

    def test_any_value(self):
        value = ()
        for _ in range(99):
            self.assertIs(is_type(value), False)
            self.assertIs(is_signature((value,)), False)
            value = (value,)
        value = "a"
        for _ in range(99):
            self.assertIs(is_type(value), False)
            self.assertIs(is_signature(value), False)
            value = (value, "a")


class Signatures(unittest.TestCase):
    def test_good_ones(self):
        for value in ((), (("c", A),), (("o", A),), (("o", O),), (("p", ((A,), "o")), ("c", A)), SIGNATURE,
                      tuple(reversed(SIGNATURE)), (("a", A), ("b", A)), (("equal", FA),)):
            with self.subTest(value=value):
                self.assertIs(is_signature(value), True)

    def test_names_of_constants(self):
        for name in GOOD_NAMES:
            with self.subTest(name=name):
                self.assertIs(is_signature(((name, A),)), True)
        for name in BAD_NAMES + NO_NAMES:
            with self.subTest(name=name):
                self.assertIs(is_signature(((name, A),)), False)
                self.assertIs(is_signature((("c", A), (name, A))), False)

    def test_types_of_constants(self):
        for kind in NO_TYPES + (((O,), "a"), ((A, ((O,), "o")), "o"), ((), "if"), ((), ".p")):
            with self.subTest(kind=kind):
                self.assertIs(is_signature((("c", kind),)), False)
                self.assertIs(is_signature((("d", A), ("c", kind), ("e", A))), False)

    def test_a_name_twice(self):
        self.assertIs(is_signature((("c", A), ("c", A))), False)
        self.assertIs(is_signature((("c", A), ("c", AA))), False)
        self.assertIs(is_signature((("c", A), ("d", A), ("e", O), ("c", O))), False)

    def test_what_is_none(self):
        for value in (None, True, False, 0, 1, "", "c", "ca", ("c", A), (("c",),), (("c", A, A),), ((A, "c"),), (A,),
                      (None,), (1,), ("c",), ("ca",), ((),), (("c", A), ()), (("c", A), None), (("c", A), "d")):
            with self.subTest(value=value):
                self.assertIs(is_signature(value), False)

    def test_beyond_the_limits(self):
        letters = "abcdefghij"
        names = [x + y + z for x in letters for y in letters for z in letters if x + y + z != "ask"]
        value = tuple((name, nested(A, 9)) for name in names)
        self.assertIs(is_signature(value), True)
        self.assertIs(is_signature(value + ((names[0], A),)), False)


if __name__ == "__main__":
    unittest.main()
