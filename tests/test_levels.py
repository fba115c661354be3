"""Points 60 to 62."""

import unittest

from lacuna.errors import LimitError, NotPattern
from lacuna.levels import raised, solve_levels
from lacuna.patterns import is_problem, solve, solves
from lacuna.terms import is_pattern

from tests.samples import (
    A, AA, AAA, B, C, FA, FAA, SIGNATURE, b, bound, bush, c, chain, depth, h, is_plain_data, long, nodes,
    random_numbers,
)

SMALL = (("c", A), ("f", AAA), ("s", AA), ("g", ((B, A), "b")), ("d", B))
SIGNATURES = (SMALL, (("c", A), ("f", AAA), ("lam", FA)), (("f", AAA), ("it", FAA)))


def n(j, *parts):
    """The name j."""
    return (0, ("n", j), parts)


def name_in(j, kind, level):
    """The long form of a name at a place with so many binders."""
    p = len(kind[0])
    own = tuple(long(("b", p - 1 - i), kind[0][i], level + p) for i in range(p))
    return (p, ("n", j), own)


def raised_words(names, holes, term, inner=0):
    """Point 61 for a term; inner is the number of binders around it."""
    m, (sign, mark), parts = term
    inner += m
    parts = tuple(raised_words(names, holes, part, inner) for part in parts)
    around = inner + len(names)
    if sign == "n":
        return (m, ("b", around - mark), parts)
    if sign == "h":
        first = tuple(long(("b", around - j), names[j - 1], around) for j in range(1, holes[mark][0] + 1))
        return (m, (sign, mark), first + parts)
    return (m, (sign, mark), parts)


class Maker:
    """Makes terms with levels, all of whose holes have patterns as parts."""

    def __init__(self, rng, signature, names, holes):
        self.rng = rng
        self.signature = signature
        self.names = names
        self.holes = holes

    def hole(self, binders, sort):
        """A hole with its parts, or None."""
        fits = [k for k in range(len(self.holes)) if self.holes[k][1][1] == sort]
        if not fits:
            return None
        k = self.rng.choice(fits)
        level, (arguments, _) = self.holes[k]
        used, parts = [], []
        for kind in arguments:
            rows = [("b", i) for i in range(len(binders)) if binders[len(binders) - 1 - i] == kind]
            rows += [("n", j) for j in range(level + 1, len(self.names) + 1) if self.names[j - 1] == kind]
            rows = [row for row in rows if row not in used]
            if not rows:
                return None
            used.append(self.rng.choice(rows))
            sign, mark = used[-1]
            parts.append(name_in(mark, kind, len(binders)) if sign == "n" else long(used[-1], kind, len(binders)))
        return ("h", k), tuple(parts)

    def term(self, binders, kind, fuel):
        """A term, or None."""
        binders = binders + kind[0]
        if fuel <= 0 or self.rng.randrange(3) == 0:
            told = self.hole(binders, kind[1])
            if told is not None:
                return (len(kind[0]),) + told
        heads = [(("c", name), told) for name, told in self.signature]
        heads += [(("n", j), self.names[j - 1]) for j in range(1, len(self.names) + 1)] * 2
        heads += [(("b", i), binders[len(binders) - 1 - i]) for i in range(len(binders))] * 2
        heads = [row for row in heads if row[1][1] == kind[1] and (fuel > 0 or not row[1][0])]
        if not heads:
            return None
        head, (needed, _) = self.rng.choice(heads)
        parts = [self.term(binders, part, fuel - 1) for part in needed]
        return None if None in parts else (len(kind[0]), head, tuple(parts))


def any_problem(rng):
    signature = rng.choice(SIGNATURES)
    names = tuple(rng.choice((A, A, AA, B, FA)) for _ in range(rng.randrange(5)))
    holes = tuple((rng.randrange(len(names) + 1),
                   (tuple(rng.choice((A, A, AA)) for _ in range(rng.randrange(3))), rng.choice("aab")))
                  for _ in range(rng.randrange(1, 6)))
    maker = Maker(rng, signature, names, holes)
    equations = []
    for _ in range(rng.randrange(1, 4)):
        kind = rng.choice((A, A, AA, B))
        sides = [maker.term((), kind, rng.randrange(3)) for _ in range(2)]
        if None not in sides:
            equations.append((kind, sides[0], sides[1]))
    return signature, (names, holes, tuple(equations))


class Raised(unittest.TestCase):
    def test_by_hand(self):
        names = (A, AA)
        holes = ((0, A), (1, AA), (2, AA))
        eta = (1, ("b", 2), (b(0),))
        for term, told in (
            (C, C), (n(1), b(1)), (n(2, n(1)), b(0, b(1))), (n(2, C), b(0, C)),
            (h(0), h(0)), (h(1, n(1)), h(1, b(1), b(1))), (h(1, C), h(1, b(1), C)),
            (h(2, C), h(2, b(1), (1, ("b", 1), (b(0),)), C)),
            (c("lam", (1, ("n", 2), (n(1),))), c("lam", (1, ("b", 1), (b(2),)))),
            (c("lam", (1, ("h", 1), (b(0),))), c("lam", (1, ("h", 1), (b(2), b(0))))),
            (c("lam", (1, ("h", 2), (n(1),))), c("lam", (1, ("h", 2), (b(2), eta, b(2))))),
            (c("lam", (1, ("n", 2), (b(0),))), c("lam", (1, ("b", 1), (b(0),)))),
        ):
            with self.subTest(term=term):
                kinds = (A, AAA, ((A, AA, A), "a"))
                kept = repr(term)
                value = (names, holes, ((A, term, C), (A, n(1), term)))
                expected = (SIGNATURE, kinds, ((names, A, told, C), (names, A, b(1), told)))
                self.assertEqual(raised(SIGNATURE, value), expected)
                self.assertIs(is_problem(raised(SIGNATURE, value)), True)
                self.assertEqual(repr(term), kept)

    def test_types(self):
        value = ((A, B), ((0, AA), (1, AA), (2, FA)), ())
        self.assertEqual(raised(SMALL, value), (SMALL, (AA, AAA, ((A, B, AA), "a")), ()))
        self.assertEqual(raised(SMALL, ((), (), ())), (SMALL, (), ()))
        value = ((A,), (), ((AA, (1, ("n", 1), ()), (1, ("b", 0), ())),))
        self.assertEqual(raised(SMALL, value), (SMALL, (), (((A,), AA, (1, ("b", 1), ()), (1, ("b", 0), ())),)))

    def test_any(self):
        rng = random_numbers(95)
        for _ in range(600):
            signature, value = any_problem(rng)
            names, holes, equations = value
            told = raised(signature, value)
            kinds = tuple((names[:level] + arguments, sort) for level, (arguments, sort) in holes)
            sides = tuple((names, kind, raised_words(names, holes, left), raised_words(names, holes, right))
                          for kind, left, right in equations)
            self.assertEqual(told, (signature, kinds, sides))
            self.assertTrue(is_plain_data(told))
            self.assertIs(is_problem(told), True)
            for prefix, kind, left, right in told[2]:
                self.assertTrue(is_pattern(signature, kinds, prefix, kind, left))
                self.assertTrue(is_pattern(signature, kinds, prefix, kind, right))


class Solve(unittest.TestCase):
    def solved(self, names, holes, *equations, signature=SMALL):
        value = (names, holes, equations)
        kept = repr(value)
        told = solve_levels(signature, value)
        self.assertEqual(repr(value), kept)
        self.assertTrue(is_plain_data(told))
        expected = solve(raised(signature, value))
        if told is None:
            self.assertEqual(expected, ("none",))
        else:
            self.assertEqual(expected, ("filled",) + told + ((),))
            self.assertTrue(solves(raised(signature, value), *told))
        return told

    def test_no_names(self):
        self.assertEqual(self.solved((), ()), ((), ()))
        self.assertEqual(self.solved((), ((0, A), (0, AA))), ((A, AA), (h(0), (1, ("h", 1), (b(0),)))))
        self.assertEqual(self.solved((), ((0, A),), (A, h(0), chain(2))), ((), (chain(2),)))
        self.assertIsNone(self.solved((), ((0, A),), (A, h(0), c("s", h(0)))))
        self.assertIsNone(self.solved((), (), (A, C, c("s", C))))
        self.assertEqual(self.solved((), (), (A, C, C)), ((), ()))

    def test_names_up_to_the_level(self):
        # The name is used as it is; its raised value has it as a binder.
        self.assertEqual(self.solved((A, A), ((2, A),), (A, h(0), n(1))), ((), ((2, ("b", 1), ()),)))
        self.assertEqual(self.solved((A, A), ((1, A),), (A, h(0), n(1))), ((), ((1, ("b", 0), ()),)))
        self.assertIsNone(self.solved((A, A), ((1, A),), (A, h(0), n(2))))
        self.assertIsNone(self.solved((A, A), ((0, A),), (A, h(0), n(1))))
        self.assertIsNone(self.solved((A, A), ((0, A),), (A, h(0), c("s", n(1)))))
        self.assertIsNone(self.solved((A, A), (), (A, n(1), n(2))))
        self.assertEqual(self.solved((A, A), (), (A, n(2), n(2))), ((), ()))
        self.assertEqual(self.solved((AA, A), ((2, A),), (A, h(0), n(1, n(2)))), ((), ((2, ("b", 1), (b(0),)),)))

    def test_names_above_the_level(self):
        self.assertEqual(self.solved((A, A), ((0, AA),), (A, h(0, n(2)), c("s", n(2)))),
                         ((), ((1, ("c", "s"), (b(0),)),)))
        self.assertIsNone(self.solved((A, A), ((0, AA),), (A, h(0, n(2)), n(1))))
        self.assertEqual(self.solved((A, A), ((1, AA),), (A, h(0, n(2)), c("f", n(1), n(2)))),
                         ((), ((2, ("c", "f"), (b(1), b(0))),)))
        # The long form of a name of a function type.
        name = (1, ("n", 1), (b(0),))
        self.assertEqual(self.solved((AA,), ((0, FA),), (A, h(0, name), n(1, C))), ((), ((1, ("b", 0), (C,)),)))

    def test_holes_of_other_levels(self):
        # One that may use more is made one of the lesser level.
        self.assertEqual(self.solved((A, A), ((0, A), (2, A)), (A, h(0), c("s", h(1)))),
                         ((A,), (c("s", h(0)), (2, ("h", 0), ()))))
        self.assertEqual(self.solved((A, A), ((2, A), (0, A)), (A, h(0), h(1))), ((A,), ((2, ("h", 0), ()), h(0))))
        self.assertEqual(self.solved((A, A), ((0, A), (2, A)), (A, h(0), h(1))), ((A,), (h(0), (2, ("h", 0), ()))))
        # It gets those names above the level that are parts of the other one.
        self.assertEqual(self.solved((A, A), ((0, AA), (2, A)), (A, h(0, n(2)), c("s", h(1)))),
                         ((AA,), ((1, ("c", "s"), (h(0, b(0)),)), (2, ("h", 0), (b(0),)))))
        self.assertEqual(self.solved((A, A), ((0, AA), (1, A)), (A, h(0, n(2)), c("s", h(1)))),
                         ((A,), ((1, ("c", "s"), (h(0),)), (1, ("h", 0), ()))))
        # Parts that are names above the level and not among the other one's are forgotten.
        self.assertEqual(self.solved((A, A), ((0, AA), (1, AA)), (A, h(0, n(1)), c("s", h(1, n(2))))),
                         ((AA,), ((1, ("c", "s"), (h(0, b(0)),)), (2, ("h", 0), (b(1),)))))
        # Names that the hole may use already stay.
        self.assertEqual(self.solved((A, A), ((2, A), (0, AA)), (A, h(0), c("s", h(1, n(2))))),
                         ((AA,), ((2, ("c", "s"), (h(0, b(0)),)), (1, ("h", 0), (b(0),)))))

    def test_the_same_hole(self):
        self.assertEqual(self.solved((A, A), ((0, AA),), (A, h(0, n(1)), h(0, n(2)))), ((A,), ((1, ("h", 0), ()),)))
        self.assertEqual(self.solved((A, A, A), ((1, AAA),), (A, h(0, n(2), n(3)), h(0, n(3), n(2)))),
                         ((AA,), ((3, ("h", 0), (b(2),)),)))
        self.assertEqual(self.solved((A, A), ((0, AA),), (A, h(0, n(1)), h(0, n(1)))),
                         ((AA,), ((1, ("h", 0), (b(0),)),)))
        self.assertIsNone(self.solved((A, A), ((0, AA),), (A, h(0, n(1)), c("s", h(0, n(2))))))

    def test_binders(self):
        self.assertEqual(self.solved((A,), ((1, AA),), (AA, (1, ("h", 0), (b(0),)), (1, ("c", "f"), (b(0), n(1))))),
                         ((), ((2, ("c", "f"), (b(0), b(1))),)))
        self.assertIsNone(self.solved((A,), ((1, A),), (AA, (1, ("h", 0), ()), (1, ("b", 0), ()))))
        self.assertEqual(self.solved((A,), ((0, A), (1, AA)), (AA, (1, ("h", 0), ()), (1, ("h", 1), (b(0),)))),
                         ((A,), (h(0), (2, ("h", 0), ()))))
        sides = (1, ("h", 0), (n(2), b(0))), (1, ("c", "f"), (b(0), n(2)))
        self.assertEqual(self.solved((A, A), ((1, AAA),), (AA,) + sides), ((), ((3, ("c", "f"), (b(0), b(1))),)))

    def test_levels_0_and_the_greatest(self):
        names = (A,) * 10
        told = self.solved(names, ((10, A), (0, ((A,) * 5, "a"))), (A, h(0), h(1, n(10), n(8), n(2), n(5), n(1))))
        self.assertEqual(told, ((((A,) * 5, "a"),), ((10, ("h", 0), (b(9), b(8), b(5), b(2), b(0))),
                                                    (5, ("h", 0), (b(0), b(2), b(1), b(3), b(4))))))
        self.assertIsNone(self.solved(names, ((9, A),), (A, h(0), n(10))))
        self.assertEqual(self.solved(names, ((10, A),)),
                         ((((A,) * 10, "a"),), ((10, ("h", 0), tuple(map(b, range(9, -1, -1)))),)))

    def test_any(self):
        rng = random_numbers(96)
        none = 0
        left = 0
        for _ in range(2500):
            signature, value = any_problem(rng)
            told = self.solved(*value[:2], *value[2], signature=signature)
            none += told is None
            left += told is not None and len(told[0]) < len(value[1])
        self.assertGreater(none, 400)
        self.assertGreater(left, 100)


class Wrong(unittest.TestCase):
    def refused(self, names, holes, *equations):
        with self.subTest(equations=equations), self.assertRaises(NotPattern):
            solve_levels(SIGNATURE, (names, holes, equations))

    def test_not_patterns(self):
        names = (A, AA, A)
        holes = ((0, AA), (1, AA), (0, FA), (2, AAA), (3, AA))
        eta = (1, ("n", 2), (b(0),))
        for term in (
            # Names up to the level, a constant, a hole, other terms, the same one twice.
            h(1, n(1)), h(3, n(2, C), n(3)), h(3, n(1), n(3)), h(3, n(3), n(3)), h(4, n(3)),
            h(0, C), h(0, c("s", n(3))), h(0, h(0, n(3))), h(0, n(2, n(1))),
            h(2, (1, ("n", 2), (C,))), h(2, (1, ("n", 2), (n(1),))), h(2, bound(1, n(1))),
            h(2, (1, ("c", "s"), (b(0),))),
            # Within others, and below binders.
            c("s", h(1, n(1))), c("lam", (1, ("h", 3), (b(0), b(0)))), c("lam", (1, ("h", 1), (n(1),))),
            h(2, (1, ("h", 0), (b(0),))), n(2, h(0, C)),
        ):
            for other in (C, h(0, n(3)), chain(3)):
                self.refused(names, holes, (A, term, other))
                self.refused(names, holes, (A, other, term))
                # Whatever the other equations are.
                self.refused(names, holes, (A, C, chain(1)), (A, term, other))
                self.refused(names, holes, (A, term, other), (A, C, chain(1)))
                self.refused(names, holes, (A, h(0, n(1)), c("s", h(0, n(1)))), (A, term, other))
        for term in (h(0, n(1)), h(0, n(3)), h(2, eta), h(1, n(3)), c("lam", (1, ("h", 3), (b(0), n(3))))):
            solve_levels(SIGNATURE, (names, holes, ((A, term, C),)))
        self.refused(names, holes, (A, h(4, n(3)), h(4, n(3))))

    def test_before_limits(self):
        holes = tuple((0, A) for _ in range(12))
        rows = [(A, h(k), c("five", *[h(k + 1)] * 5)) for k in range(11)]
        self.refused((A,), holes + ((1, AA),), *rows, (A, h(12, n(1)), C))


class Limits(unittest.TestCase):
    def check(self, fits, names, holes, *equations):
        value = (names, holes, equations)
        if not fits:
            with self.assertRaises(LimitError):
                solve_levels(SIGNATURE, value)
            return
        kinds, terms = solve_levels(SIGNATURE, value)
        self.assertLessEqual(sum(map(nodes, terms)), 2000)
        self.assertLessEqual(max(map(depth, terms)), 100)

    def test_nodes(self):
        for last, fits in ((190, True), (191, False)):
            rows = [(A, h(k), bush(200)) for k in range(9)] + [(A, h(9), bush(last))]
            self.check(fits, (), ((0, A),) * 11, *rows, (A, h(10), chain(9)))
            self.check(fits, (A, A), ((1, A),) * 11, *rows, (A, h(10), chain(9, n(1))))
        # The names that a hole may use count as its parts.
        for last, fits in ((189, True), (190, False)):
            rows = [(A, h(k), bush(200)) for k in range(9)] + [(A, h(9), bush(last))]
            self.check(fits, (A,) * 10, ((0, A),) * 10 + ((10, A),), *rows)

    def test_depth(self):
        for last, fits in ((9, True), (10, False)):
            rows = [(A, h(0), chain(18))] + [(A, h(k), chain(18, h(k - 1))) for k in range(1, 5)]
            self.check(fits, (A,), ((1, A),) * 6, *rows, (A, h(5), chain(last, h(4))))

    def test_none_is_told_at_any_size(self):
        rows = [(A, h(k), bush(200)) for k in range(10)]
        self.assertIsNone(solve_levels(SIGNATURE, ((), ((0, A),) * 10, tuple([(A, C, chain(1))] + rows[:8]))))

    def test_far_above(self):
        rows = [(A, h(k), c("five", *[h(k + 1)] * 5)) for k in range(11)]
        self.check(False, (), ((0, A),) * 12, *rows)
        rows = [(A, h(k), c("five", *[h(k + 1)] * 5)) for k in range(5)]
        others = [(A, h(k), c("five", *[h(k + 1)] * 5)) for k in range(6, 11)]
        self.check(False, (), ((0, A),) * 12, *rows, *others, (A, h(0), h(6)))


if __name__ == "__main__":
    unittest.main()
