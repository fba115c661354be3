"""Point 15: opening terms, and its limits."""

import unittest

from lacuna.errors import LacunaError, LimitError
from lacuna.filling import opened
from lacuna.terms import is_term, lifted, long_binder, long_hole

from tests.samples import (
    AA, AAA, B, C, D, FA, FAA, KINDS, SIGNATURE, any_kinds, any_small, b, bound, bush, c, chain, depth,
    expected_opened, h, is_plain_data, nodes, random_numbers,
)

IN_LAM = (1, ("b", 0), ())


class ByHand(unittest.TestCase):
    def test_without_own_binders(self):
        for term in (C, b(0), b(3, C), h(1, b(0)), c("lam", IN_LAM), c("f", b(1), C)):
            with self.subTest(term=term):
                self.assertEqual(opened(term, ()), term)

    def test_own_binders_of_the_term(self):
        for w in (C, b(0), b(4, C), h(0), c("f", b(2), C)):
            with self.subTest(w=w):
                self.assertEqual(opened((1, ("b", 0), ()), (w,)), w)
                self.assertEqual(opened((2, ("b", 1), ()), (w, D)), w)
                self.assertEqual(opened((2, ("b", 0), ()), (D, w)), w)
                self.assertEqual(opened((3, ("b", 1), ()), (D, w, D)), w)

    def test_own_binders_in_a_term_in_it(self):
        w, x = c("f", b(0), b(3)), h(0, b(1))
        self.assertEqual(opened((1, ("c", "s"), (b(0),)), (w,)), c("s", w))
        self.assertEqual(opened((2, ("c", "f"), (b(1), b(0))), (w, x)), c("f", w, x))
        self.assertEqual(opened((2, ("c", "f"), (b(0), b(1))), (w, x)), c("f", x, w))
        self.assertEqual(opened((2, ("c", "f"), (b(0), c("s", b(0)))), (w, x)), c("f", x, c("s", x)))
        self.assertEqual(opened((1, ("h", 2), (b(0), b(0))), (w,)), h(2, w, w))
        self.assertEqual(opened((1, ("b", 1), (b(0),)), (w,)), b(0, w))
        # Below further binders, what is put in is lifted, and the further binders stay.
        self.assertEqual(opened((1, ("c", "lam"), ((1, ("b", 1), ()),)), (w,)),
                         c("lam", (1, ("c", "f"), (b(1), b(4)))))
        term = (2, ("c", "it"), ((1, ("c", "lam"), ((1, ("c", "f"), (b(2), b(3))),)), b(1)))
        lam = (1, ("c", "lam"), ((1, ("c", "f"), (h(0, b(3)), c("f", b(2), b(5)))),))
        self.assertEqual(opened(term, (w, x)), c("it", lam, w))

    def test_constants_holes_and_inner_binders_stay(self):
        self.assertEqual(opened((2, ("c", "c"), ()), (C, D)), C)
        self.assertEqual(opened((2, ("h", 1), ()), (C, D)), h(1))
        self.assertEqual(opened((1, ("c", "lam"), (IN_LAM,)), (C,)), c("lam", IN_LAM))
        term = (1, ("c", "k"), ((2, ("b", 1), ()), (2, ("b", 0), ()), (2, ("b", 2), ())))
        self.assertEqual(opened(term, (b(0),)), c("k", (2, ("b", 1), ()), (2, ("b", 0), ()), (2, ("b", 2), ())))
        # An inner binder stays as a head, and its parts change.
        term = (1, ("c", "high"), ((1, ("b", 0), (b(1),)),))
        self.assertEqual(opened(term, (b(0),)), c("high", (1, ("b", 0), (b(1),))))
        self.assertEqual(opened(term, (C,)), c("high", (1, ("b", 0), (C,))))
        self.assertEqual(opened(term, (h(3, b(2)),)), c("high", (1, ("b", 0), (h(3, b(3)),))))

    def test_binders_further_outside(self):
        self.assertEqual(opened((1, ("b", 1), ()), (C,)), b(0))
        self.assertEqual(opened((3, ("b", 3), ()), (C, C, C)), b(0))
        self.assertEqual(opened((3, ("b", 7), ()), (C, C, C)), b(4))
        self.assertEqual(opened((1, ("b", 3), (b(0), b(1), b(2))), (C,)), b(2, C, b(0), b(1)))
        self.assertEqual(opened((2, ("c", "s"), (b(2),)), (C, C)), c("s", b(0)))
        # They become smaller by the own binders of the term alone, whatever lies between.
        self.assertEqual(opened((2, ("c", "lam"), ((1, ("b", 3), ()),)), (C, C)), c("lam", (1, ("b", 1), ())))
        self.assertEqual(opened((2, ("c", "lam"), ((1, ("b", 4), (b(3),)),)), (C, C)), c("lam", (1, ("b", 2), (b(1),))))
        term = (1, ("c", "lam"), ((1, ("c", "lam"), ((1, ("b", 5), ()),)),))
        self.assertEqual(opened(term, (C,)), c("lam", (1, ("c", "lam"), ((1, ("b", 4), ()),))))

    def test_own_binders_stay_where_the_head_is_put_in(self):
        self.assertEqual(opened((1, ("c", "lam"), ((1, ("b", 1), ()),)), (C,)), c("lam", (1, ("c", "c"), ())))
        self.assertEqual(opened((1, ("c", "lam"), ((1, ("b", 1), ()),)), (c("s", b(0)),)),
                         c("lam", (1, ("c", "s"), (b(1),))))
        # A function without own binders of the place: the term itself loses its own.
        self.assertEqual(opened((2, ("b", 1), (b(0),)), ((1, ("c", "s"), (b(0),)), C)), c("s", C))

    def test_functions_as_own_binders(self):
        twice = (1, ("c", "f"), (b(0), b(0)))
        self.assertEqual(opened((1, ("b", 0), (C,)), (twice,)), c("f", C, C))
        self.assertEqual(opened((2, ("b", 1), (b(0),)), (twice, D)), c("f", D, D))
        self.assertEqual(opened((1, ("b", 0), (b(0, C),)), (twice,)), c("f", c("f", C, C), c("f", C, C)))
        self.assertEqual(opened((1, ("b", 0), (b(1),)), ((1, ("c", "c"), ()),)), C)
        self.assertEqual(opened((1, ("b", 0), (b(1),)), ((1, ("b", 0), ()),)), b(0))
        self.assertEqual(opened((1, ("c", "s"), (b(0, b(2)),)), ((1, ("b", 3), (b(0),)),)), c("s", b(2, b(1))))
        # Below a further binder.
        self.assertEqual(opened((1, ("c", "lam"), ((1, ("b", 1), (b(0),)),)), (twice,)),
                         c("lam", (1, ("c", "f"), (b(0), b(0)))))
        self.assertEqual(opened((1, ("c", "lam"), ((1, ("b", 1), (b(0),)),)), ((1, ("c", "f"), (b(2), b(0))),)),
                         c("lam", (1, ("c", "f"), (b(2), b(0)))))
        # Two arguments: the first own binder is the outermost one.
        second = (2, ("c", "f"), (b(0), b(1)))
        self.assertEqual(opened((1, ("b", 0), (C, b(1))), (second,)), c("f", b(0), C))

    def test_functions_of_functions(self):
        # The own binder takes a function, which is opened in its turn.
        term = (1, ("b", 0), ((1, ("c", "s"), (b(0),)), C))
        self.assertEqual(opened(term, ((2, ("b", 1), (b(1, b(0)),)),)), c("s", c("s", C)))
        self.assertEqual(opened(term, ((2, ("c", "lam"), ((1, ("b", 2), (c("f", b(0), b(1)),)),)),)),
                         c("lam", (1, ("c", "s"), (c("f", b(0), C),))))
        # The function uses a binder of the place between.
        term = (1, ("c", "lam"), ((1, ("b", 1), ((1, ("c", "f"), (b(0), b(1))), C)),))
        self.assertEqual(opened(term, ((2, ("b", 1), (b(1, b(0)),)),)),
                         c("lam", (1, ("c", "f"), (c("f", C, b(0)), b(0)))))

    def test_long_forms(self):
        v = (1, ("c", "f"), (b(0, C), c("lam", (1, ("b", 1), (b(0),)))))
        self.assertEqual(opened(v, (long_binder(2, AA),)), c("f", b(2, C), c("lam", (1, ("b", 3), (b(0),)))))
        self.assertEqual(opened(v, (long_hole(2, AA),)), c("f", h(2, C), c("lam", (1, ("h", 2), (b(0),)))))
        self.assertEqual(opened(v, ((1, ("c", "s"), (b(0),)),)), c("f", c("s", C), c("lam", (1, ("c", "s"), (b(0),)))))
        # Not quite long forms.
        self.assertEqual(opened((1, ("b", 0), (C, D)), ((2, ("b", 4), (b(0), b(1))),)), b(2, D, C))
        self.assertEqual(opened((1, ("b", 0), (C, D)), ((2, ("b", 4), (b(1), b(1))),)), b(2, C, C))
        self.assertEqual(opened((1, ("b", 0), (C,)), ((1, ("b", 4), (b(0), b(0))),)), b(3, C, C))


class AnyTerm(unittest.TestCase):
    def test_as_functions(self):
        rng = random_numbers(5)
        for _ in range(400):
            holes, prefix = any_kinds(rng, 2), any_kinds(rng, 3)
            kind = (any_kinds(rng, 3), rng.choice("ab"))
            term = any_small(rng, holes, prefix, kind, 30)
            terms = tuple(any_small(rng, holes, prefix, part, 12) for part in kind[0])
            told = opened(term, terms)
            self.assertTrue(is_plain_data(told))
            self.assertEqual(told, expected_opened(SIGNATURE, holes, prefix, kind, term, terms))
            self.assertIs(is_term(SIGNATURE, holes, prefix, ((), kind[1]), told), True)

    def test_a_long_form_is_opened_to_its_head(self):
        for kind in KINDS:
            for i in (0, 2):
                parts = tuple(long_binder(i + 1 + j, kind[0][j]) for j in range(len(kind[0])))
                self.assertEqual(opened(long_binder(i, kind), parts), b(i, *parts))
                self.assertEqual(opened(long_hole(i, kind), parts), h(i, *parts))

    def test_opening_with_the_own_binders(self):
        rng = random_numbers(6)
        for _ in range(200):
            kind = rng.choice(KINDS)
            term = any_small(rng, KINDS, (B, AA), kind)
            n = len(kind[0])
            own = tuple(long_binder(n - 1 - j, kind[0][j]) for j in range(n))
            self.assertEqual(bound(n, opened(lifted(term, n), own)), term)

    def test_arguments_stay(self):
        term, terms = (2, ("b", 1), (b(0),)), ((1, ("c", "f"), (b(0), b(0))), chain(3))
        told = opened(term, terms)
        self.assertEqual(told, opened(term, terms))
        self.assertEqual((term, terms), ((2, ("b", 1), (b(0),)), ((1, ("c", "f"), (b(0), b(0))), chain(3))))


class Limits(unittest.TestCase):
    def check(self, fits, term, terms, most_nodes=True):
        """The term has exactly what the limit allows, or raises LimitError."""
        if not fits:
            with self.assertRaises(LimitError) as caught:
                opened(term, terms)
            self.assertIsInstance(caught.exception, LacunaError)
            return
        told = opened(term, terms)
        self.assertEqual(nodes(told) if most_nodes else depth(told), 2000 if most_nodes else 100)

    def test_nodes_without_arguments(self):
        for more in (0, 1, 2):
            term = (1, ("c", "f"), (b(0), bush(998 + more)))
            self.check(more == 0, term, (bush(1001),))
            self.check(more == 0, term, (c("s", bush(1000)),))
            term = (2, ("c", "five"), (b(0), b(0), b(1), C, C))
            self.check(more == 0, term, (bush(997 + more), bush(500)))
        term = (1, ("c", "f"), (b(0), b(0)))
        self.assertEqual(nodes(opened(term, (bush(999),))), 1999)
        with self.assertRaises(LimitError):
            opened(term, (bush(1000),))

    def test_the_term_itself_is_put_in(self):
        self.check(True, (1, ("b", 0), ()), (bush(2000),))
        self.check(False, (1, ("b", 0), ()), (bush(2001),))
        self.check(True, (1, ("b", 0), ()), (chain(99),), False)
        self.check(False, (1, ("b", 0), ()), (chain(100),), False)

    def test_depth_without_arguments(self):
        for n in (1, 50, 98):
            self.check(True, bound(1, chain(n, b(0))), (chain(99 - n),), False)
            self.check(True, (1, ("c", "f"), (C, chain(n - 1, b(0)))), (chain(99 - n),), False)
            self.check(False, bound(1, chain(n, b(0))), (chain(100 - n),), False)
            self.check(False, (1, ("c", "f"), (chain(n - 1, b(0)), C)), (chain(100 - n),), False)
            lam = (1, ("c", "lam"), (bound(1, chain(n, b(1))),))
            self.check(True, lam, (chain(98 - n),), False)
            self.check(False, lam, (chain(99 - n),), False)

    def test_what_is_not_put_in_does_not_count(self):
        for large in (bush(2000), bush(2500), chain(99), chain(120)):
            self.assertEqual(opened((1, ("c", "c"), ()), (large,)), C)
            self.assertEqual(opened((2, ("c", "s"), (b(0),)), (large, C)), chain(1))

    def test_long_forms(self):
        for w, head in ((long_binder(3, AAA), ("b", 3)), (long_hole(1, AAA), ("h", 1))):
            for more in (0, 1):
                term = (1, ("b", 0), (bush(999), bush(1000 + more)))
                self.check(more == 0, term, (w,))
                term = (2, ("b", 1), (bush(999), c("s", b(0))))
                self.check(more == 0, term, (w, bush(999 + more)))
                deep = bound(1, chain(49, b(0, C, chain(49 + more))))
                self.check(more == 0, deep, (w,), False)
            self.assertEqual(opened((1, ("b", 0), (C, C)), (w,)), (0, head, (C, C)))

    def test_functions_as_parts_of_long_forms(self):
        # Nothing on the way is larger than what is returned: each part is a function with a large body.
        w = long_binder(0, ((FAA, FA), "a"))
        for more in (0, 1):
            first = (2, ("b", 1), (bush(900),))
            second = (1, ("b", 0), (bush(1097 + more),))
            self.check(more == 0, (1, ("b", 0), (first, second)), (w,))

    def test_functions(self):
        for more in (0, 1):
            five = (1, ("c", "five"), (b(0), b(0), C, C, chain(more)))
            self.check(more == 0, (1, ("b", 0), (bush(998),)), (five,))
            deep = bound(1, chain(50, b(0)))
            self.check(more == 0, (1, ("b", 0), (chain(49 + more),)), (deep,), False)
            deep = bound(1, chain(40, b(0)))
            self.check(more == 0, bound(1, chain(10, b(0, b(0, chain(9 + more))))), (deep,), False)

    def test_the_same_function_within_itself(self):
        twice = (1, ("c", "f"), (b(0), b(0)))
        term = C
        for _ in range(9):
            term = b(0, term)
        self.assertEqual(nodes(opened(bound(1, term), (twice,))), 1023)
        for _ in range(30):
            term = b(0, b(0, term))
            with self.assertRaises(LimitError):
                opened(bound(1, term), (twice,))

    def test_functions_of_functions(self):
        # A function so many times within itself, so many times.
        inner = (1, ("b", 1), (bound(1, chain(11, b(0))), b(0)))
        for many, fits in ((3, True), (4, False), (5, False), (20, False)):
            self.check(fits, (1, ("b", 0), (inner, C)), (times(many),), False)
        for many in (0, 1, 2):
            self.assertEqual(opened((1, ("b", 0), (inner, C)), (times(many),)), chain(11 * many * many))


def times(many):
    """The function that takes a function so many times."""
    term = b(0)
    for _ in range(many):
        term = b(1, term)
    return bound(2, term)


class OnTheWay(unittest.TestCase):
    forget = (1, ("c", "c"), ())

    def test_what_is_too_large(self):
        """What is returned may be told, or LimitError be raised."""
        twice = (1, ("c", "f"), (b(0), b(0)))
        for term, terms in (
            ((1, ("b", 0), (c("f", bush(1000), bush(1000)),)), (self.forget,)),
            ((2, ("b", 0), (b(1, bush(1000)),)), (twice, self.forget)),
            ((2, ("b", 0), (b(1, bush(1999)),)), (twice, self.forget)),
            ((1, ("b", 0), (chain(100),)), (self.forget,)),
        ):
            try:
                self.assertEqual(opened(term, terms), C)
            except LimitError:
                pass

    def test_what_is_not(self):
        for large in (bush(2000), chain(99), b(0, bush(1990)), c("f", b(0, bush(2000)), b(0, bush(2000)))):
            self.assertEqual(opened((1, ("b", 0), (large,)), (self.forget,)), C)
        term = (1, ("c", "f"), (b(0, bush(1990)), b(0, bush(1990))))
        self.assertEqual(opened(term, (self.forget,)), c("f", C, C))


if __name__ == "__main__":
    unittest.main()
