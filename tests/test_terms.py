"""Points 11 to 14 and 17: terms, long forms, lifting and patterns."""

import unittest

from lacuna.terms import is_pattern, is_term, lifted, long_binder, long_hole, size

from tests.samples import (
    A, AA, AAA, B, BA, C, D, FA, FAA, FIVE, GA, KINDS, SIGNATURE, any_kinds, any_pattern, any_small, any_term, b,
    bound, bush, c, chain, expected_lifted, h, is_plain_data, is_typed, long, nodes, random_numbers,
)

HOLES = (A, AA, ((AA, B), "a"), ((A,), "b"))
PREFIX = (B, AA, A)          # binder 2 of b, binder 1 of a -> a, binder 0 of a


def has(kind, value, holes=HOLES, prefix=PREFIX, signature=SIGNATURE):
    return is_term(signature, holes, prefix, kind, value)


GOOD = (
    (A, C), (A, b(0)), (B, b(2)), (A, b(1, b(0))), (A, h(0)), (A, h(1, C)), (A, c("o")), (A, c("f", C, b(0))),
    (B, D), (B, h(3, b(1, C))), (AA, (1, ("b", 0), ())), (AA, (1, ("b", 1), ())), (AA, (1, ("c", "c"), ())),
    (AA, (1, ("b", 2), (b(0),))), (AA, (1, ("h", 0), ())), (AAA, (2, ("b", 1), ())), (AAA, (2, ("b", 2), ())),
    (((A, B), "b"), (2, ("b", 0), ())), (((A, B), "a"), (2, ("b", 1), ())),
    (A, c("lam", (1, ("b", 0), ()))), (A, c("lam", (1, ("b", 2), (b(1),)))),
    (A, h(2, (1, ("b", 2), (b(0),)), b(2))), (FA, (1, ("b", 0), (C,))),
    (FA, (1, ("c", "lam"), ((1, ("b", 1), (b(0),)),))),
    (A, c("high", (1, ("b", 0), (c("s", C),)))), (A, c("five", C, b(0), h(0), C, c("o"))),
    (A, c("it", (1, ("c", "f"), (b(0), b(1))), C)),
)


class Terms(unittest.TestCase):
    def test_good_ones(self):
        for kind, value in GOOD:
            with self.subTest(kind=kind, value=value):
                self.assertIs(has(kind, value), True)

    def test_of_another_type(self):
        for kind, value in GOOD:
            for other in KINDS:
                if other != kind:
                    with self.subTest(value=value, other=other):
                        self.assertIs(has(other, value), is_typed(SIGNATURE, HOLES, PREFIX, other, value))

    def test_wrong_number_of_binders(self):
        for kind, value in GOOD:
            for n in (value[0] - 1, value[0] + 1, value[0] + 7, -1, None, "", "1", (), (value[0],)):
                with self.subTest(value=value, n=n):
                    self.assertIs(has(kind, (n,) + value[1:]), False)
        self.assertIs(has(A, (0, ("c", "lam"), (b(0),))), False)
        self.assertIs(has(A, (0, ("c", "lam"), ((2, ("b", 0), ()),))), False)

    def test_true_and_false_are_no_integers(self):
        self.assertIs(has(A, (False, ("c", "c"), ())), False)
        self.assertIs(has(AA, (True, ("b", 0), ())), False)
        self.assertIs(has(A, b(False)), False)
        self.assertIs(has(A, b(True, C)), False)
        self.assertIs(has(A, h(False)), False)
        self.assertIs(has(A, h(True, C)), False)
        self.assertIs(has(A, c("f", C, (False, ("b", 0), ()))), False)
        self.assertIs(has(A, c("lam", (True, ("b", 0), ()))), False)

    def test_parts_missing_or_too_many(self):
        for kind, value in GOOD:
            for parts in (value[2] + (C,), value[2][1:] if value[2] else (D,), (value[2],), value[2] + (None,)):
                with self.subTest(value=value, parts=parts):
                    self.assertIs(has(kind, value[:2] + (parts,)), False)
        self.assertIs(has(A, c("f", C)), False)
        self.assertIs(has(A, c("f")), False)
        self.assertIs(has(A, c("f", C, C, C)), False)
        self.assertIs(has(A, c("s", c("f", C))), False)
        self.assertIs(has(AA, (1, ("c", "f"), (b(0),))), False)
        self.assertIs(has(AA, (0, ("c", "s"), ())), False)

    def test_a_head_of_another_sort(self):
        for value in (D, b(2), h(3, C), c("g", D, C), c("k", (1, ("b", 0), ()), D)):
            with self.subTest(value=value):
                self.assertIs(has(B, value), True)
                self.assertIs(has(A, value), False)
                self.assertIs(has(A, c("s", value)), False)
                self.assertIs(has(AA, bound(1, value)), False)

    def test_heads_that_are_not_there(self):
        for value in (b(3), b(-1), b(-3), b(99), c("zz"), c(""), c("C"), h(4), h(-4), h(-1), h(99), c("b"), c("h")):
            with self.subTest(value=value):
                self.assertIs(has(A, value), False)
                self.assertIs(has(A, c("s", value)), False)
                self.assertIs(has(AA, (1, ("c", "s"), (value,))), False)
        self.assertIs(has(A, b(0), prefix=()), False)
        self.assertIs(has(A, h(0), holes=()), False)
        self.assertIs(has(A, C, signature=()), False)
        self.assertIs(has(AA, (1, ("b", 1), ()), prefix=()), False)
        self.assertIs(has(AA, (1, ("b", 0), ()), prefix=(), holes=(), signature=()), True)
        # A binder is there inside of its term alone.
        self.assertIs(has(A, c("f", c("lam", (1, ("b", 0), ())), b(0)), prefix=()), False)
        self.assertIs(has(A, c("f", c("lam", (1, ("b", 0), ())), C), prefix=()), True)

    def test_binders_count_from_the_innermost(self):
        prefix = (A, B)
        self.assertIs(has(B, b(0), prefix=prefix), True)
        self.assertIs(has(A, b(1), prefix=prefix), True)
        self.assertIs(has(A, b(0), prefix=prefix), False)
        self.assertIs(has(B, b(1), prefix=prefix), False)
        self.assertIs(has(((A, B), "b"), (2, ("b", 0), ()), prefix=()), True)
        self.assertIs(has(((B, A), "b"), (2, ("b", 0), ()), prefix=()), False)
        self.assertIs(has(((B, A), "b"), (2, ("b", 1), ()), prefix=()), True)

    def test_a_part_of_another_type(self):
        for value in (
            c("f", C, D), c("f", D, C), c("s", (1, ("b", 0), ())), c("lam", C), c("lam", (1, ("b", 3), ())),
            h(1, D), h(2, (1, ("b", 0), ()), C), h(2, C, D), b(1, D), b(1, b(2)), c("it", C, (1, ("b", 0), ())),
            c("five", C, C, C, C, D), c("high", (1, ("b", 0), (D,))), c("high", (1, ("b", 0), ())),
        ):
            with self.subTest(value=value):
                self.assertIs(has(A, value), False)

    def test_a_predicate_as_head(self):
        self.assertIs(has(A, c("truth")), False)
        self.assertIs(has(A, c("pred", C)), False)
        self.assertIs(has(B, c("pred", C)), False)
        self.assertIs(has(A, c("s", c("truth"))), False)
        self.assertIs(has(A, c("s", c("pred", C))), False)
        self.assertIs(has(AA, (1, ("c", "pred"), (b(0),))), False)

    def test_any_value_in_each_place(self):
        for kind, value in GOOD:
            for junk in JUNK:
                for changed in with_junk(value, junk):
                    with self.subTest(value=value, changed=changed):
                        self.assertIs(has(kind, changed), False)

    def test_any_value_nested(self):
        value = ()
        for _ in range(99):
            self.assertIs(has(A, value), False)
            self.assertIs(has(AA, value), False)
            self.assertIs(has(A, (0, ("c", "s"), (value,))), False)
            value = (value,)

    def test_any_term(self):
        rng = random_numbers(1)
        for _ in range(300):
            holes, prefix, kind = any_kinds(rng, 3), any_kinds(rng, 3), rng.choice(KINDS)
            value = any_small(rng, holes, prefix, kind)
            self.assertIs(has(kind, value, holes, prefix), True)
            other_prefix, other_holes = any_kinds(rng, 3), any_kinds(rng, 3)
            expected = is_typed(SIGNATURE, holes, other_prefix, kind, value)
            self.assertIs(has(kind, value, holes, other_prefix), expected)
            expected = is_typed(SIGNATURE, other_holes, prefix, kind, value)
            self.assertIs(has(kind, value, other_holes, prefix), expected)

    def test_no_limits_are_looked_at(self):
        self.assertIs(has(A, bush(3000)), True)
        self.assertIs(has(A, c("s", bush(3000), C)), False)
        self.assertIs(has(A, chain(99)), True)
        self.assertIs(has(A, chain(150)), True)
        self.assertIs(has(A, chain(150, D)), False)

    def test_sorts_of_predicates(self):
        # Point 76: these functions take types with sorts that are no names.
        kind = ((A, ((), ".q")), ".p")
        self.assertIs(is_term((), (), (((A,), ".p"),), kind, (2, ("b", 2), (b(1),))), True)
        self.assertIs(is_term((), (), (((A,), ".q"),), kind, (2, ("b", 2), (b(1),))), False)
        self.assertIs(is_term((), (), (), ((((), ".q"),), ".q"), (1, ("b", 0), ())), True)
        self.assertEqual(long_binder(0, kind), (2, ("b", 2), (b(1), b(0))))


JUNK = (None, True, False, -1, 99, "", "c2", "x", "bb", (), ((),), (None,), ("b",), ("b", 0, 0), ("x", 0), (0, "b"),
        ("b", "c"), ("c", 0), ("h", "c"), ("c", ("c",)), ("b", None), (("b", 0),), (0, ("c", "c")), ("c", "c", ()),
        (0, ("c", "c"), (), ()), (0, "c", ()), (0, ("c", "c"), None), (0, ("c", "c"), "c"), (0, ("c", "c"), ((),)))


def with_junk(value, junk):
    """The value with the junk in the place of each tuple, string and integer in it, one at a time."""
    changed = []
    if junk != value or type(junk) is not type(value):
        changed.append(junk)
    if type(value) is tuple:
        for at, part in enumerate(value):
            changed += [value[:at] + (one,) + value[at + 1:] for one in with_junk(part, junk)]
    return changed


class Sizes(unittest.TestCase):
    def test_size(self):
        self.assertEqual(size(C), 1)
        self.assertEqual(size(c("f", C, b(0))), 3)
        self.assertEqual(size((1, ("c", "lam"), ((1, ("c", "s"), (b(0),)),))), 3)
        self.assertEqual(size(chain(99)), 100)
        for n in (1, 5, 6, 7, 200, 2000, 2001):
            self.assertEqual(size(bush(n)), n)

    def test_any_size(self):
        rng = random_numbers(2)
        for _ in range(100):
            term = any_term(rng, KINDS, KINDS, rng.choice(KINDS), 2)
            self.assertEqual(size(term), nodes(term))


class LongForms(unittest.TestCase):
    def test_the_example(self):
        self.assertEqual(long_binder(0, AA), (1, ("b", 1), ((0, ("b", 0), ()),)))
        self.assertEqual(long_binder(0, ((A,), "b")), (1, ("b", 1), ((0, ("b", 0), ()),)))

    def test_by_hand(self):
        self.assertEqual(long_binder(0, A), b(0))
        self.assertEqual(long_binder(7, A), b(7))
        self.assertEqual(long_binder(3, AAA), (2, ("b", 5), (b(1), b(0))))
        self.assertEqual(long_binder(3, FIVE), (5, ("b", 8), (b(4), b(3), b(2), b(1), b(0))))
        self.assertEqual(long_binder(2, FA), (1, ("b", 3), ((1, ("b", 1), (b(0),)),)))
        self.assertEqual(long_binder(2, FAA), (2, ("b", 4), ((1, ("b", 2), (b(0),)), b(0))))
        self.assertEqual(long_binder(1, GA), (1, ("b", 2), ((1, ("b", 1), ((1, ("b", 1), (b(0),)),)),)))
        self.assertEqual(long_hole(0, A), h(0))
        self.assertEqual(long_hole(4, AAA), (2, ("h", 4), (b(1), b(0))))
        self.assertEqual(long_hole(1, FAA), (2, ("h", 1), ((1, ("b", 2), (b(0),)), b(0))))
        self.assertEqual(long_hole(0, GA), (1, ("h", 0), ((1, ("b", 1), ((1, ("b", 1), (b(0),)),)),)))

    def test_all_types(self):
        kinds = KINDS + (((GA, FA, A), "b"), ((GA,) * 5, "a"), ((FAA, BA, FIVE, A, B), "a"))
        for kind in kinds:
            for i in (0, 1, 5):
                with self.subTest(kind=kind, i=i):
                    prefix = (B, kind) + (A,) * i
                    told = long_binder(i, kind)
                    self.assertEqual(told, long(("b", i), kind, len(prefix)))
                    self.assertTrue(is_plain_data(told))
                    self.assertIs(is_term((), (), prefix, kind, told), True)
                    holes = (B,) * i + (kind,)
                    told = long_hole(i, kind)
                    self.assertEqual(told, long(("h", i), kind, 3))
                    self.assertTrue(is_plain_data(told))
                    self.assertIs(is_term((), holes, (), kind, told), True)


class Lifting(unittest.TestCase):
    def test_by_hand(self):
        self.assertEqual(lifted(C, 3), C)
        self.assertEqual(lifted(b(2), 3), b(5))
        self.assertEqual(lifted((1, ("b", 0), ()), 3), (1, ("b", 0), ()))
        self.assertEqual(lifted((1, ("b", 1), ()), 3), (1, ("b", 4), ()))
        self.assertEqual(lifted((2, ("b", 1), ()), 3), (2, ("b", 1), ()))
        self.assertEqual(lifted(h(2, b(2), b(0)), 2), h(2, b(4), b(2)))
        term = (1, ("c", "f"), (b(0), c("it", (1, ("b", 1), ()), (0, ("b", 1), ()))))
        self.assertEqual(lifted(term, 2), (1, ("c", "f"), (b(0), c("it", (1, ("b", 1), ()), b(3)))))
        term = c("it", (1, ("b", 1), ()), b(0))
        self.assertEqual(lifted(term, 2), c("it", (1, ("b", 3), ()), b(2)))
        term = (1, ("b", 4), ((1, ("b", 1), ()), (1, ("b", 2), ()), (1, ("b", 0), ())))
        self.assertEqual(lifted(term, 1), (1, ("b", 5), ((1, ("b", 1), ()), (1, ("b", 3), ()), (1, ("b", 0), ()))))

    def test_any_term(self):
        rng = random_numbers(3)
        for _ in range(300):
            holes, prefix, kind = any_kinds(rng, 2), any_kinds(rng, 3), rng.choice(KINDS)
            term = any_term(rng, holes, prefix, kind, 3)
            more = any_kinds(rng, 3)
            told = lifted(term, len(more))
            self.assertEqual(told, expected_lifted(term, len(more)))
            self.assertTrue(is_plain_data(told))
            if nodes(term) < 200:
                self.assertIs(is_term(SIGNATURE, holes, prefix + more, kind, told), True)
            self.assertEqual(lifted(term, 0), term)
            self.assertEqual(lifted(lifted(term, 2), 3), lifted(term, 5))

    def test_no_limits_are_looked_at(self):
        self.assertEqual(size(lifted(bush(2500), 1)), 2500)
        self.assertEqual(lifted(chain(120, b(0)), 1), chain(120, b(1)))


class Patterns(unittest.TestCase):
    holes = (A, AA, AAA, ((AA,), "a"), ((FA, A), "a"), ((AAA,), "a"))
    prefix = (FA, AAA, AA, A, A)        # binders 4, 3, 2, 1, 0

    def is_pattern(self, term, kind=A):
        self.assertIs(is_term(SIGNATURE, self.holes, self.prefix, kind, term), True)
        return is_pattern(SIGNATURE, self.holes, self.prefix, kind, term)

    def test_patterns(self):
        eta = (1, ("b", 3), (b(0),))
        for term in (
            C, b(0), b(2, C), h(0), h(1, b(0)), h(1, b(1)), h(2, b(0), b(1)), h(2, b(1), b(0)), h(3, eta),
            h(4, (1, ("b", 5), ((1, ("b", 1), (b(0),)),)), b(1)), h(5, (2, ("b", 5), (b(1), b(0)))),
            c("f", h(1, b(0)), h(1, b(0))), c("s", h(2, b(1), b(0))), b(2, h(1, b(1))),
            c("lam", (1, ("h", 1), (b(0),))), c("lam", (1, ("h", 2), (b(0), b(2)))), c("f", h(0), b(2, b(2, C))),
        ):
            with self.subTest(term=term):
                self.assertIs(self.is_pattern(term), True)
        self.assertIs(self.is_pattern((1, ("h", 1), (b(0),)), AA), True)
        self.assertIs(self.is_pattern((1, ("h", 1), (b(1),)), AA), True)

    def test_the_same_binder_twice(self):
        for term in (
            h(2, b(0), b(0)), h(2, b(1), b(1)), c("s", h(2, b(0), b(0))), c("f", h(2, b(0), b(1)), h(2, b(1), b(1))),
            c("lam", (1, ("h", 2), (b(0), b(0)))), b(2, h(2, b(0), b(0))),
        ):
            with self.subTest(term=term):
                self.assertIs(self.is_pattern(term), False)

    def test_no_long_forms(self):
        for part in (C, h(0), b(2, b(0)), c("s", b(0)), b(3, b(0), b(1)), h(1, b(0))):
            with self.subTest(part=part):
                self.assertIs(self.is_pattern(h(1, part)), False)
                self.assertIs(self.is_pattern(c("s", h(1, part))), False)
                self.assertIs(self.is_pattern(c("f", C, h(1, part))), False)
                self.assertIs(self.is_pattern(c("f", h(1, part), C)), False)
                self.assertIs(self.is_pattern(h(2, b(0), part)), False)
                self.assertIs(self.is_pattern(h(2, part, b(0))), False)

    def test_functions_that_are_no_long_forms(self):
        for part in (
            (1, ("b", 0), ()), (1, ("b", 1), ()), (1, ("c", "c"), ()), (1, ("c", "s"), (b(0),)), (1, ("b", 3), (C,)),
            (1, ("b", 3), (b(1),)), (1, ("b", 3), (b(3, b(0)),)), (1, ("h", 1), (b(0),)), (1, ("b", 4), (b(0), b(0))),
        ):
            with self.subTest(part=part):
                self.assertIs(self.is_pattern(h(3, part)), False)
        for part in ((2, ("b", 5), (b(0), b(1))), (2, ("b", 5), (b(1), b(1))), (2, ("b", 4), (b(0),)),
                     (2, ("c", "f"), (b(1), b(0))), (2, ("b", 0), ()), (2, ("h", 2), (b(1), b(0)))):
            with self.subTest(part=part):
                self.assertIs(self.is_pattern(h(5, part)), False)
        for part in ((1, ("b", 0), (C,)), (1, ("b", 5), ((1, ("b", 0), ()),)), (1, ("b", 5), ((1, ("b", 2), ()),)),
                     (1, ("b", 5), ((1, ("c", "c"), ()),)), (1, ("c", "lam"), ((1, ("b", 1), (b(0),)),))):
            with self.subTest(part=part):
                self.assertIs(self.is_pattern(h(4, part, b(0))), False)

    def test_any_term(self):
        rng = random_numbers(4)
        seen = [0, 0]
        for _ in range(600):
            holes, prefix, kind = any_kinds(rng, 3), any_kinds(rng, 3), rng.choice(KINDS)
            term = any_small(rng, holes, prefix, kind)
            expected = expected_pattern(holes, prefix, kind, term)
            seen[expected] += 1
            self.assertIs(is_pattern(SIGNATURE, holes, prefix, kind, term), expected)
            made = []
            term = any_pattern(rng, made, prefix, kind, 3)
            self.assertIs(is_pattern(SIGNATURE, tuple(made), prefix, kind, term), True)
        self.assertGreater(min(seen), 20)

    def test_without_holes(self):
        self.assertIs(is_pattern(SIGNATURE, (), (), A, bush(2500)), True)
        self.assertIs(is_pattern(SIGNATURE, (AA,), (), A, chain(98, h(0, C))), False)
        self.assertIs(is_pattern(SIGNATURE, (AA,), (A,), A, chain(98, h(0, b(0)))), True)


def expected_pattern(holes, prefix, kind, term):
    """Point 17 by its words: each part is looked for among the long forms of all binders of the place."""
    n, head, parts = term
    binders = prefix + kind[0]
    needed = holes[head[1]][0] if head[0] == "h" else None
    if needed is None:
        constants = dict(SIGNATURE)
        needed = constants[head[1]][0] if head[0] == "c" else binders[len(binders) - 1 - head[1]][0]
        return all(expected_pattern(holes, binders, needed[j], parts[j]) for j in range(len(parts)))
    numbers = []
    for j, part in enumerate(parts):
        rows = [i for i in range(len(binders)) if binders[len(binders) - 1 - i] == needed[j]]
        numbers += [i for i in rows if long(("b", i), needed[j], len(binders)) == part]
    return len(numbers) == len(parts) and len(set(numbers)) == len(numbers)


if __name__ == "__main__":
    unittest.main()
