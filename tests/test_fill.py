"""Point 16: fillings, filling and composing, and their limits."""

import unittest

from lacuna.errors import LimitError
from lacuna.filling import compose, fill, is_filling, opened, unchanged
from lacuna.terms import is_term, long_binder, long_hole

from tests.samples import (
    A, AA, AAA, B, C, D, FA, FAA, KINDS, SIGNATURE, any_kinds, any_pattern, any_small, b, bound, bush, c, chain, depth,
    expected_fill, h, is_plain_data, nodes, random_numbers,
)
from tests.test_terms import JUNK, with_junk

FORGET = (1, ("c", "c"), ())


class Fillings(unittest.TestCase):
    old = (A, AA, B)
    new = (B, AA)
    value = (h(1, C), (1, ("h", 1), (b(0),)), h(0))

    def is_filling(self, value, old=None, new=None):
        return is_filling(SIGNATURE, self.old if old is None else old, self.new if new is None else new, value)

    def test_good_ones(self):
        self.assertIs(self.is_filling(self.value), True)
        self.assertIs(self.is_filling((C, (1, ("b", 0), ()), D)), True)
        self.assertIs(self.is_filling((C, (1, ("b", 0), ()), D), new=()), True)
        self.assertIs(self.is_filling((), old=()), True)
        self.assertIs(self.is_filling((), old=(), new=()), True)
        self.assertIs(is_filling((), (AA,), (), ((1, ("b", 0), ()),)), True)
        self.assertIs(self.is_filling((bush(2500), (1, ("c", "s"), (chain(120),)), D)), True)

    def test_of_another_length(self):
        for value in ((), self.value[:1], self.value[:2], self.value + (C,), self.value * 2, (self.value,)):
            with self.subTest(value=value):
                self.assertIs(self.is_filling(value), False)
        self.assertIs(self.is_filling((C,), old=()), False)

    def test_values_of_other_types(self):
        for k, wrong in ((0, D), (0, h(0)), (0, (1, ("b", 0), ())), (1, C), (1, (1, ("c", "d"), ())), (2, C),
                         (1, (2, ("b", 0), ())), (2, h(1, C)), (0, c("pred", C)), (0, c("truth")), (0, c("s"))):
            value = self.value[:k] + (wrong,) + self.value[k + 1:]
            with self.subTest(value=value):
                self.assertIs(self.is_filling(value), False)
        self.assertIs(self.is_filling((self.value[1], self.value[0], self.value[2])), False)

    def test_what_is_not_there(self):
        for wrong in (b(0), h(2), h(-1), h(False), c("zz"), c("s", b(0)), c("s", h(2)), h(1, b(0))):
            with self.subTest(wrong=wrong):
                self.assertIs(self.is_filling((wrong,) + self.value[1:]), False)
        self.assertIs(self.is_filling((C, (1, ("b", 1), ()), D)), False)
        # Holes are those of new, not those of old.
        self.assertIs(self.is_filling((h(0),), old=(A,), new=(B,)), False)
        self.assertIs(self.is_filling((h(0),), old=(B,), new=(B,)), True)
        self.assertIs(self.is_filling((h(1),), old=(A, A), new=(A,)), False)
        self.assertIs(self.is_filling((h(2), h(2)), old=(A, A), new=(B, B, A)), True)

    def test_any_value(self):
        for junk in JUNK:
            for value in with_junk(self.value, junk):
                with self.subTest(value=value):
                    self.assertIs(self.is_filling(value), False)
        for value in (None, True, False, 0, 3, "", "abc", "a"):
            self.assertIs(self.is_filling(value), False)
            self.assertIs(self.is_filling(value, old=()), False)
            self.assertIs(self.is_filling((value,), old=(A,)), False)


class ByHand(unittest.TestCase):
    def test_without_arguments(self):
        self.assertEqual(fill((C,), h(0)), C)
        self.assertEqual(fill((C, D), c("g", h(1), h(0))), c("g", D, C))
        self.assertEqual(fill((h(3),), c("f", h(0), h(0))), c("f", h(3), h(3)))
        self.assertEqual(fill((C,), c("lam", (1, ("h", 0), ()))), c("lam", (1, ("c", "c"), ())))
        self.assertEqual(fill((), c("f", b(1), C)), c("f", b(1), C))

    def test_with_arguments(self):
        twice = (1, ("c", "f"), (b(0), b(0)))
        self.assertEqual(fill((twice,), h(0, b(3))), c("f", b(3), b(3)))
        self.assertEqual(fill((twice,), h(0, h(0, C))), c("f", c("f", C, C), c("f", C, C)))
        self.assertEqual(fill((twice,), (1, ("h", 0), (b(0),))), twice)
        self.assertEqual(fill((twice,), (2, ("h", 0), (b(1),))), (2, ("c", "f"), (b(1), b(1))))
        self.assertEqual(fill(((1, ("b", 0), ()),), c("s", h(0, b(1)))), c("s", b(1)))
        self.assertEqual(fill((FORGET,), c("s", h(0, b(1)))), c("s", C))
        first = (2, ("b", 1), ())
        self.assertEqual(fill((first,), h(0, C, b(0))), C)
        self.assertEqual(fill((first,), h(0, b(0), C)), b(0))

    def test_binders_of_the_place(self):
        # The hole stands below binders, and a value has none of them but through its arguments.
        value = (1, ("c", "lam"), ((1, ("c", "f"), (b(0), b(1))),))
        term = (1, ("c", "lam"), ((1, ("h", 0), (b(1),)),))
        told = (1, ("c", "lam"), ((1, ("c", "f"), (b(0), b(2))),))
        self.assertEqual(fill((value,), term), (1, ("c", "lam"), (told,)))
        term = (1, ("c", "lam"), ((1, ("h", 0), (b(0),)),))
        told = (1, ("c", "lam"), ((1, ("c", "f"), (b(0), b(1))),))
        self.assertEqual(fill((value,), term), (1, ("c", "lam"), (told,)))

    def test_functions_as_arguments(self):
        value = (2, ("b", 1), (b(1, b(0)),))
        self.assertEqual(fill((value,), h(0, (1, ("c", "s"), (b(0),)), C)), chain(2))
        self.assertEqual(fill((value,), h(0, (1, ("c", "f"), (b(0), b(1))), b(0))), c("f", c("f", b(0), b(0)), b(0)))
        self.assertEqual(fill((value,), h(0, (1, ("b", 3), (b(0),)), C)), b(2, b(2, C)))
        self.assertEqual(fill((value, C), h(0, (1, ("h", 0), ((1, ("b", 0), ()), h(1))), h(1))), C)

    def test_holes_are_those_of_the_values(self):
        # The holes that come with a value are not filled again.
        self.assertEqual(fill((c("s", h(0)),), h(0)), c("s", h(0)))
        self.assertEqual(fill((h(1), h(0)), c("f", h(0), h(1))), c("f", h(1), h(0)))
        self.assertEqual(fill(((1, ("h", 0), (c("s", b(0)),)),), h(0, h(0, C))), h(0, c("s", h(0, c("s", C)))))

    def test_compose(self):
        self.assertEqual(compose((), ()), ())
        self.assertEqual(compose((), (C,)), ())
        self.assertEqual(compose((C, h(0)), (D,)), (C, D))
        self.assertEqual(compose((c("s", h(0)), h(0)), (c("s", h(0)),)), (c("s", c("s", h(0))), c("s", h(0))))
        self.assertEqual(compose(((1, ("h", 1), (b(0),)),), (C, (1, ("c", "f"), (b(0), h(2))))),
                         ((1, ("c", "f"), (b(0), h(2))),))

    def test_unchanged(self):
        self.assertEqual(unchanged(()), ())
        self.assertEqual(unchanged((A,)), (h(0),))
        self.assertEqual(unchanged((A, AAA)), (h(0), (2, ("h", 1), (b(1), b(0)))))
        self.assertEqual(unchanged(KINDS), tuple(long_hole(k, KINDS[k]) for k in range(len(KINDS))))


class AnyFilling(unittest.TestCase):
    def test_as_functions(self):
        rng = random_numbers(7)
        for _ in range(400):
            old, new, prefix, kind = any_kinds(rng, 3), any_kinds(rng, 2), any_kinds(rng, 3), rng.choice(KINDS)
            values = tuple(any_small(rng, new, (), part, 9) for part in old)
            term = any_small(rng, old, prefix, kind, 25)
            told = fill(values, term)
            self.assertTrue(is_plain_data(told))
            self.assertEqual(told, expected_fill(SIGNATURE, new, values, prefix, kind, term))
            self.assertIs(is_term(SIGNATURE, new, prefix, kind, told), True)

    def test_the_filling_that_changes_nothing(self):
        rng = random_numbers(8)
        for _ in range(200):
            holes, prefix, kind = any_kinds(rng, 4), any_kinds(rng, 3), rng.choice(KINDS)
            self.assertIs(is_filling(SIGNATURE, holes, holes, unchanged(holes)), True)
            self.assertTrue(is_plain_data(unchanged(holes)))
            term = any_small(rng, holes, prefix, kind)
            self.assertEqual(fill(unchanged(holes), term), term)
            old = any_kinds(rng, 4)
            values = tuple(any_small(rng, holes, (), part) for part in old)
            self.assertEqual(compose(values, unchanged(holes)), values)
            self.assertEqual(compose(unchanged(old), values), values)

    def test_the_composite(self):
        rng = random_numbers(9)
        for _ in range(300):
            one, two, three = any_kinds(rng, 3), any_kinds(rng, 3), any_kinds(rng, 3)
            first = tuple(any_small(rng, two, (), part, 7) for part in one)
            second = tuple(any_small(rng, three, (), part, 7) for part in two)
            prefix, kind = any_kinds(rng, 2), rng.choice(KINDS)
            term = any_small(rng, one, prefix, kind, 12)
            both = compose(first, second)
            self.assertTrue(is_plain_data(both))
            self.assertIs(is_filling(SIGNATURE, one, three, both), True)
            self.assertEqual(fill(both, term), fill(second, fill(first, term)))

    def test_arguments_stay(self):
        values, term = ((1, ("c", "f"), (b(0), b(0))), h(0)), c("s", h(0, h(1)))
        told = fill(values, term), compose((term,), values)
        self.assertEqual((fill(values, term), compose((term,), values)), told)
        self.assertEqual((values, term), (((1, ("c", "f"), (b(0), b(0))), h(0)), c("s", h(0, h(1)))))


class Limits(unittest.TestCase):
    def check(self, fits, values, term, count=nodes, most=2000):
        """Filling, also in a composite, gives exactly what the limit allows, or raises LimitError."""
        if fits:
            self.assertEqual(count(fill(values, term)), most)
            self.assertEqual(compose((C, term, C), values), (C, fill(values, term), C))
            return
        with self.assertRaises(LimitError):
            fill(values, term)
        for first in ((term,), (C, term), (term, C)):
            with self.assertRaises(LimitError):
                compose(first, values)

    def check_deep(self, fits, values, term):
        self.check(fits, values, term, depth, 100)

    def test_nodes(self):
        for more in (0, 1):
            fits = more == 0
            self.check(fits, (bush(1000 + more),), c("f", h(0), bush(999)))
            self.check(fits, (bush(500), bush(999 + more)), c("f", c("f", h(0), h(1)), bush(499)))
            self.check(fits, (C,), c("five", h(0), h(0), bush(500), bush(500), bush(997 + more)))
            self.check(fits, (), bush(2000 + more))
            self.check(fits, (bush(2000 + more),), h(0))
            self.check(fits, ((1, ("c", "f"), (b(0), bush(1996 + more))),), c("f", C, h(0, b(3))))

    def test_depth(self):
        for more in (0, 1):
            fits = more == 0
            self.check_deep(fits, (chain(49 + more),), chain(50, h(0)))
            self.check_deep(fits, (chain(99 + more),), h(0))
            self.check_deep(fits, (), chain(99 + more))
            self.check_deep(fits, (bound(1, chain(60 + more, b(0))),), c("lam", bound(1, chain(38, h(0, b(0))))))
            self.check_deep(fits, (C, chain(49 + more)), c("f", h(0), chain(49, h(1))))

    def test_patterns_with_functions_as_parts(self):
        eta = long_binder(0, AA)
        value = (1, ("c", "f"), (b(0, bush(900)), b(0, bush(1094))))
        for more in (0, 1):
            fits = more == 0
            self.check(fits, (value,), chain(3 + more, h(0, eta)))
            self.check_deep(fits, (bound(1, chain(30, b(0, chain(30)))),), chain(38 + more, h(0, eta)))

    def test_what_is_not_returned_does_not_count(self):
        self.assertEqual(fill((bush(2000), C), h(1)), C)
        self.assertEqual(fill((bush(2500), C), h(1)), C)
        self.assertEqual(fill((chain(99), C), h(1)), C)
        self.assertEqual(compose((h(1),), (bush(2500), C)), (C,))
        # The term is a pattern, so no term on the way is too large: the parts are left out.
        self.assertEqual(fill((FORGET,), chain(99, h(0, b(0)))), chain(99))
        self.assertEqual(fill((FORGET, bush(2000)), h(0, b(0))), C)

    def test_each_value_for_itself(self):
        first = tuple(c("s", h(k)) for k in range(12))
        second = tuple(bush(1999) for _ in range(12))
        told = compose(first, second)
        self.assertEqual([nodes(value) for value in told], [2000] * 12)
        first = (c("s", h(0)),) * 12
        self.assertEqual(compose(first, (bush(1999),)), told)
        deep = tuple(chain(98) for _ in range(12))
        self.assertEqual([depth(value) for value in compose(first, deep)], [100] * 12)
        for k in range(12):
            with self.assertRaises(LimitError):
                compose(first[:k] + (c("s", c("s", h(k))),) + first[k + 1:], second)

    def test_no_pattern(self):
        twice = (1, ("c", "f"), (b(0), b(0)))
        term = C
        for _ in range(9):
            term = h(0, term)
        self.assertEqual(nodes(fill((twice,), term)), 1023)
        for _ in range(30):
            term = h(0, h(0, term))
            self.check(False, (twice,), term)
        for more in (0, 1):
            fits = more == 0
            self.check(fits, ((1, ("c", "five"), (b(0), b(0), C, C, chain(more))),), h(0, bush(998)))
            self.check_deep(fits, (bound(1, chain(40, b(0))),), h(0, h(0, chain(19 + more))))

    def test_what_is_forgotten(self):
        # A part is too large when it is filled: what is returned may be told, or LimitError be raised.
        for part in (c("f", h(1), h(1)), chain(90, chain(90, h(1)))):
            try:
                self.assertEqual(fill((FORGET, bush(1000)), h(0, part)), C)
                self.assertEqual(compose((h(0, part),), (FORGET, bush(1000))), (C,))
            except LimitError:
                pass
        # Here none is.
        self.assertEqual(fill((FORGET, bush(1999)), h(0, c("s", h(1)))), C)
        self.assertEqual(fill((FORGET, bush(1999)), c("f", h(0, c("s", h(1))), h(0, h(1)))), c("f", C, C))
        self.assertEqual(fill((FORGET, chain(98)), h(0, c("s", h(1)))), C)

    def test_results_are_passed_on(self):
        large = fill((bush(1999),), c("s", h(0)))
        self.assertEqual(fill((large,), h(0)), large)
        self.assertEqual(opened((1, ("b", 0), ()), (large,)), large)
        self.assertEqual(compose((large,), ()), (large,))
        deep = fill((bound(1, chain(98, b(0))),), c("s", h(0, b(0))))
        self.assertEqual(fill((), deep), deep)
        self.assertEqual(opened(bound(1, deep), (C,)), chain(99))

    def test_deep_terms_within_one_another(self):
        # Each of these is as deep as may be, and is put into the next one.
        inner = bound(1, chain(30, b(0)))
        function = (2, ("c", "s"), (b(1, b(1, b(0))),))
        told = fill((bound(1, chain(30, b(0, inner, C))),), chain(8, h(0, function)))
        self.assertEqual(told, chain(8 + 30 + 61))


class Patterns(unittest.TestCase):
    def test_filling_patterns(self):
        rng = random_numbers(10)
        for _ in range(200):
            holes = []
            prefix, kind = any_kinds(rng, 3), rng.choice(KINDS)
            term = any_pattern(rng, holes, prefix, kind, 3)
            values = tuple(any_small(rng, (FA, FAA), (), part, 12) for part in holes)
            told = fill(values, term)
            self.assertEqual(told, expected_fill(SIGNATURE, (FA, FAA), values, prefix, kind, term))


if __name__ == "__main__":
    unittest.main()
