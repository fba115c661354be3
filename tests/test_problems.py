"""Points 20 and 21: problems, which fillings solve them, and simplifying."""

import unittest

from lacuna.errors import LimitError
from lacuna.patterns import is_problem, simplified, solves

from tests.equations import Maker, simplify
from tests.formulas import JUNK, alike, is_form_signature, is_form_term, is_form_types, replaced, spots, twisted
from tests.samples import (
    A, AA, AAA, B, BA, C, D, FA, KINDS, O, SIGNATURE, any_kinds, any_small, any_term, b, bound, bush, c, chain,
    expected_fill, h, is_plain_data, is_typed, random_numbers,
)


def problem(holes, *equations):
    return (SIGNATURE, holes, equations)


def is_problem_by_words(value):
    if type(value) is not tuple or len(value) != 3 or not is_form_signature(value[0]) or not is_form_types(value[1]):
        return False
    return type(value[2]) is tuple and all(is_equation_by_words(value[0], value[1], row) for row in value[2])


def is_equation_by_words(signature, holes, value):
    if type(value) is not tuple or len(value) != 4 or not is_form_types(value[0]) or not is_form_types((value[1],)):
        return False
    terms = value[2:]
    return all(is_form_term(term) and is_typed(signature, holes, value[0], value[1], term) for term in terms)


class IsProblem(unittest.TestCase):
    def test_right_ones(self):
        for value in (
            ((), (), ()),
            (SIGNATURE, (), ()),
            ((), (A, AA), ()),
            problem((A,), ((), A, h(0), C)),
            problem((AA,), ((A, B), A, h(0, b(1)), c("f", b(1), C)), ((), AA, (1, ("h", 0), (b(0),)),
                                                                      (1, ("b", 0), ()))),
            # No patterns; the same equation twice; more equations and holes than the limits.
            problem((AA,), ((), A, h(0, h(0, C)), C)),
            problem((A,), *[((), A, h(0), C)] * 13),
            problem((A,) * 13, ((), A, h(12), C)),
            problem((), ((), A, chain(90), bush(300))),
            problem((), ((A,) * 11, A, b(10), b(0))),
            # A constant may be called o, as may a binder.
            ((("o", A),), (), (((), A, c("o"), c("o")),)),
        ):
            with self.subTest(value=value):
                self.assertIs(is_problem(value), True)

    def test_wrong_ones(self):
        right = ((), A, C, C)
        for value in (
            None, True, False, 0, 3, "problem", (), ((), ()), ((), (), (), ()), (SIGNATURE, ()),
            (SIGNATURE, (), right), (SIGNATURE, (), (right, None)), (SIGNATURE, None, ()), (None, (), ()),
            ((("c", A), ("c", B)), (), ()), ((("rule", A),), (), ()), ((("c", ((O,), "a")),), (), ()),
            (SIGNATURE, (O,), ()), (SIGNATURE, (((O,), "a"),), ()), (SIGNATURE, A, ()), (SIGNATURE, ("a",), ()),
            problem((), ((), A, C)), problem((), ((), A, C, C, C)), problem((), (A, A, C, C)),
            problem((), ((O,), A, C, C)), problem((), (None, A, C, C)), problem((), ((None,), A, C, C)),
            problem((), ((), O, c("truth"), c("truth"))), problem((), ((), "a", C, C)), problem((), ((), None, C, C)),
            problem((), ((), ((O,), "a"), C, C)), problem((), ((), B, C, C)), problem((), ((), A, C, D)),
            problem((), ((), A, D, C)), problem((), ((), AA, C, C)), problem((), ((), A, C, (1, ("c", "c"), ()))),
            problem((), ((), A, b(0), C)), problem((), ((), A, C, h(0))), problem((A,), ((), A, C, h(1))),
            problem((), ((A,), A, b(0), b(1))), problem((), ((B,), A, b(0), C)), problem((), ((), A, c("no"), C)),
            problem((), ((), A, c("f", C), C)), problem((), ((), A, c("pred", C), C)), problem((), ((), A, C, None)),

        ):
            with self.subTest(value=value):
                self.assertIs(is_problem(value), False)

    def test_true_and_false_are_no_integers(self):
        term = (1, ("c", "lam"), ((1, ("c", "f"), (b(0), b(1))),))
        right = problem((A, AA), ((A,), AA, term, (1, ("h", 1), (h(0),))))
        self.assertIs(is_problem(right), True)
        count = 0
        for path in spots(right[2]):
            part = right[2]
            for at in path:
                part = part[at]
            if type(part) is int and part < 2:
                count += 1
                self.assertIs(is_problem((SIGNATURE, (A, AA), replaced(right[2], path, bool(part)))), False)
        self.assertEqual(count, 10)

    def test_each_part_replaced(self):
        right = problem((A, AA), ((A,), A, c("f", b(0), h(0)), h(1, b(0))),
                        ((), AA, (1, ("c", "s"), (b(0),)), bound(1, C)))
        small = (tuple(row for row in SIGNATURE if row[0] in "cfs"),) + right[1:]
        self.assertIs(is_problem(small), True)
        for path in spots(small):
            for junk in JUNK:
                value = replaced(small, path, junk)
                self.assertIs(is_problem(value), is_problem_by_words(value), value)

    def test_any_values(self):
        rng = random_numbers(20)
        seen = {True: 0, False: 0}
        for _ in range(300):
            maker = Maker(rng)
            equations = []
            for _ in range(rng.randrange(3)):
                prefix, kind = any_kinds(rng, 2), rng.choice(KINDS)
                term = any_small(rng, (), prefix, kind, 10)
                equations.append((prefix, kind, maker.vague(prefix, kind, term), term))
            value = problem(tuple(maker.holes), *equations)
            self.assertIs(is_problem(value), True)
            for _ in range(4):
                other = (twisted if rng.randrange(2) else alike)(rng, value)
                told = is_problem(other)
                self.assertIs(told, is_problem_by_words(other), other)
                seen[told] += 1
        self.assertGreater(min(seen.values()), 100)


class Solves(unittest.TestCase):
    def test_by_hand(self):
        one = problem((AA, A), ((A,), A, h(0, b(0)), c("f", b(0), h(1))))
        right = bound(1, c("f", b(0), C))
        self.assertIs(solves(one, (), (right, C)), True)
        self.assertIs(solves(one, (), (right, c("o"))), False)
        self.assertIs(solves(one, (), (bound(1, c("f", C, C)), C)), False)
        self.assertIs(solves(one, (B, A), (bound(1, c("f", b(0), h(1))), h(1))), True)
        self.assertIs(solves(one, (A, A), (bound(1, c("f", b(0), h(1))), h(0))), False)
        self.assertIs(solves(problem((A,)), (), (C,)), True)
        self.assertIs(solves(problem((), ((), A, C, C)), (), ()), True)
        self.assertIs(solves(problem((), ((), A, C, c("o"))), (), ()), False)

    def test_all_equations(self):
        rows = [((), A, h(0), C), ((A,), A, h(1, b(0)), b(0)), ((), B, D, D)]
        values = (C, (1, ("b", 0), ()))
        self.assertIs(solves(problem((A, AA), *rows), (), values), True)
        for at in range(4):
            wrong = rows[:at] + [((), A, h(0), c("o"))] + rows[at:]
            self.assertIs(solves(problem((A, AA), *wrong), (), values), False)

    def test_no_patterns(self):
        one = problem((AA,), ((), A, h(0, h(0, C)), c("s", c("s", C))))
        self.assertIs(solves(one, (), ((1, ("c", "s"), (b(0),)),)), True)
        self.assertIs(solves(one, (), (bound(1, chain(2)),)), True)
        self.assertIs(solves(one, (), (bound(1, chain(3)),)), False)

    def test_functions_as_sides(self):
        one = problem((AA,), ((), FA, (1, ("h", 0), (b(0, C),)), (1, ("b", 0), (C,))))
        self.assertIs(solves(one, (), ((1, ("b", 0), ()),)), True)
        self.assertIs(solves(one, (), ((1, ("c", "s"), (b(0),)),)), False)

    def test_limits(self):
        one = problem((A, AA), ((), A, c("s", h(0)), c("s", h(0))))
        self.assertIs(solves(one, (), (bush(1999), bound(1, C))), True)
        try:
            self.assertIs(solves(one, (), (bush(2000), bound(1, C))), True)
        except LimitError:
            pass

    def test_any(self):
        rng = random_numbers(21)
        seen = {True: 0, False: 0}
        for _ in range(150):
            old, new = any_kinds(rng, 3), any_kinds(rng, 2)
            values = tuple(any_small(rng, new, (), kind, 6) for kind in old)
            prefix, kind = any_kinds(rng, 2), rng.choice(KINDS)
            left = any_small(rng, old, prefix, kind, 10)
            right = alike_term(rng, old, prefix, kind, left)
            told = [expected_fill(SIGNATURE, new, values, prefix, kind, side) for side in (left, right)]
            value = problem(old, (prefix, kind, left, right))
            self.assertIs(solves(value, new, values), told[0] == told[1])
            seen[told[0] == told[1]] += 1
            self.assertIs(solves(problem(old, (prefix, kind, left, left)), new, values), True)
        self.assertGreater(min(seen.values()), 30)


class Simplified(unittest.TestCase):
    def check(self, holes, equations, told):
        self.assertEqual(simplified(SIGNATURE, holes, equations), told)

    def test_nothing(self):
        self.check((), (), ())
        self.check((A,), (), ())

    def test_what_cannot_be_replaced(self):
        for row in (
            ((), A, h(0), C), ((), A, C, h(0)), ((), A, h(0), h(1)), ((A,), A, h(2, b(0)), b(0)),
            ((A, B), A, h(2, c("s", h(0))), h(2, h(0))), ((B,), A, h(0), c("f", h(0), h(1))),
        ):
            self.check((A, A, AA), (row,), (row,))
            self.check((A, A, AA), (row, row), (row, row))

    def test_own_binders(self):
        self.check((AA,), (((), AA, (1, ("h", 0), (b(0),)), (1, ("b", 0), ())),), (((A,), A, h(0, b(0)), b(0)),))
        self.check((((B, A), "a"),), (((BA,), ((B, A), "a"), (2, ("h", 0), (b(1), b(0))), (2, ("b", 2), (b(1),))),),
                   (((BA, B, A), A, h(0, b(1), b(0)), b(2, b(1))),))
        # The type that is left is one of the sort, and the prefix is longer.
        told = simplified(SIGNATURE, (AA,), (((B,), AA, (1, ("h", 0), (C,)), (1, ("c", "c"), ())),))
        self.assertEqual(told, (((B, A), ((), "a"), h(0, C), C),))

    def test_equal_sides(self):
        for row in (
            ((), A, h(0), h(0)), ((), A, C, C), ((A,), A, b(0), b(0)), ((A,), A, h(1, b(0)), h(1, b(0))),
            ((A,), A, c("f", h(1, h(0)), b(0)), c("f", h(1, h(0)), b(0))),
            ((), AA, (1, ("h", 1), (b(0),)), (1, ("h", 1), (b(0),))),
        ):
            self.check((A, AA), (row,), ())
            self.check((A, AA), (row, ((), A, h(0), C), row), (((), A, h(0), C),))
        self.check((A, AA), (((A,), A, h(1, b(0)), h(1, C)),), (((A,), A, h(1, b(0)), h(1, C)),))

    def test_parts(self):
        self.check((A, A), (((), A, c("f", h(0), h(1)), c("f", C, c("o"))),), (((), A, h(0), C), ((), A, h(1), c("o"))))
        self.check((A, A), (((), A, c("f", C, h(1)), c("f", h(0), C)),), (((), A, C, h(0)), ((), A, h(1), C)))
        self.check((A,), (((), A, chain(20, h(0)), chain(20)),), (((), A, h(0), C),))
        self.check((A,), (((), A, chain(20, h(0)), chain(21)),), (((), A, h(0), c("s", C)),))
        # The types are those that the head needs, with longer prefixes where they are functions.
        self.check((A,), (((), A, c("lam", bound(1, h(0))), c("lam", (1, ("b", 0), ()))),), (((A,), A, h(0), b(0)),))
        self.check((B, BA), (((B,), B, c("g", b(0), h(1, b(0))), c("g", h(0), C)),),
                   (((B,), B, b(0), h(0)), ((B,), A, h(1, b(0)), C)))
        # Also of a binder as head.
        self.check((A, A), (((AAA,), A, b(0, h(0), C), b(0, C, h(1))),), (((AAA,), A, h(0), C), ((AAA,), A, C, h(1))))
        self.check((A,), (((FA, AAA), A, b(1, bound(1, h(0))), b(1, (1, ("b", 0), ()))),),
                   (((FA, AAA, A), A, h(0), b(0)),))

    def test_order(self):
        # What comes of an equation stands at its place, and in the order of the parts.
        deep = c("f", c("f", h(0), h(1)), c("f", h(2), h(3)))
        other = c("f", c("f", C, c("o")), c("f", c("s", C), c("lam", (1, ("b", 0), ()))))
        four = (((), A, h(0), C), ((), A, h(1), c("o")), ((), A, h(2), c("s", C)),
                ((), A, h(3), c("lam", (1, ("b", 0), ()))))
        first, last = ((), A, h(4), C), ((), A, c("o"), h(4))
        self.check((A,) * 5, (((), A, deep, other),), four)
        self.check((A,) * 5, (first, ((), A, deep, other), last), (first,) + four + (last,))
        five = tuple(((), A, h(k), C) for k in range(5))
        self.check((A,) * 5, (((), A, c("five", *[h(k) for k in range(5)]), c("five", *[C] * 5)),), five)
        self.check((A,) * 5, tuple(reversed(five)), tuple(reversed(five)))

    def test_clash(self):
        for prefix, left, right in (
            ((), C, c("o")), ((), c("s", C), C), ((A,), b(0), C), ((A, A), b(0), b(1)), ((A,), c("s", b(0)), b(0)),
            ((AA,), b(0, C), c("s", C)), ((), c("f", h(0), C), c("f", h(0), c("o"))),
            ((), c("s", c("s", C)), c("s", c("s", c("o")))),
            ((), c("lam", (1, ("b", 0), ())), c("lam", (1, ("c", "c"), ()))),
        ):
            with self.subTest(left=left, right=right):
                clash = (prefix, A, left, right)
                self.check((A,), (clash,), None)
                self.check((A,), ((prefix, A, right, left),), None)
                self.check((A,), (((), A, h(0), C), clash, ((), A, h(0), C)), None)
                self.check((A,), (((), A, c("f", h(0), h(0)), c("f", C, c("o"))), clash), None)
        # Heads that are holes make no clash, whatever one sees.
        self.check((A,), (((), A, h(0), C), ((), A, h(0), c("o"))), (((), A, h(0), C), ((), A, h(0), c("o"))))

    def test_any(self):
        rng = random_numbers(22)
        seen = [0, 0, 0]
        for _ in range(200):
            holes = any_kinds(rng, 3)
            rows = []
            for _ in range(rng.randrange(4)):
                prefix, kind = any_kinds(rng, 2), rng.choice(KINDS)
                left = any_term(rng, holes, prefix, kind, 2)
                right = alike_term(rng, holes, prefix, kind, left)
                rows.append((prefix, kind, left, right))
            told = simplified(SIGNATURE, holes, tuple(rows))
            expected = simplify(SIGNATURE, holes, rows)
            self.assertEqual(told, expected if expected is None else tuple(expected))
            self.assertTrue(is_plain_data(told))
            seen[0 if told is None else 1 if told else 2] += 1
            if told:
                self.assertEqual(simplified(SIGNATURE, holes, told), told)
        self.assertGreater(min(seen), 20)


def alike_term(rng, holes, prefix, kind, term):
    """The term with other terms at some places of sorts."""
    if rng.randrange(5) == 0:
        return any_term(rng, holes, prefix, kind, 1)
    n, head, parts = term
    binders = prefix + kind[0]
    if head[0] == "h":
        needed = holes[head[1]][0]
    else:
        needed = (dict(SIGNATURE)[head[1]] if head[0] == "c" else binders[len(binders) - 1 - head[1]])[0]
    return (n, head, tuple(alike_term(rng, holes, binders, needed[j], parts[j]) for j in range(len(parts))))


if __name__ == "__main__":
    unittest.main()
