"""Points 18 and 19: tidy fillings and their instances."""

import unittest

from lacuna.filling import compose, fill, is_filling, more_of, tidied, unchanged
from lacuna.terms import is_pattern

from tests.samples import (
    A, AA, AAA, B, C, D, FA, FAA, GA, KINDS, SIGNATURE, any_kinds, any_pattern, any_pattern_filling, any_small,
    any_term, b, bound, bush, c, chain, h, is_plain_data, long, long_row, nodes, random_numbers, subterms,
)

ETA = (1, ("b", 1), (b(0),))         # the long form of the binder 0 of the type a -> a


def tidy(old, new, values):
    return tidied(SIGNATURE, old, new, values)


def more(old, new, values, others):
    return more_of(SIGNATURE, old, new, values, others)


def number_of(part):
    return part[1][1] - part[0]


def is_tidy(types, values):
    """Point 18 by its words, for a filling that is a pattern."""
    seen = []
    for value in values:
        for n, head, parts in subterms(value):
            if head[0] == "h" and head[1] not in seen:
                seen.append(head[1])
                numbers = [number_of(part) for part in parts]
                if numbers != sorted(numbers, reverse=True):
                    return False
    return seen == list(range(len(types)))


def changed(rng, new, values):
    """The same filling with other numbers, other orders of arguments, and holes that do not occur between them."""
    added = any_kinds(rng, 2)
    kinds = list(new) + list(added)
    numbers = rng.sample(range(len(kinds)), len(kinds))
    orders = [rng.sample(range(len(kind[0])), len(kind[0])) for kind in kinds]
    types = [None] * len(kinds)
    for k, kind in enumerate(kinds):
        types[numbers[k]] = (tuple(kind[0][j] for j in orders[k]), kind[1])

    def change(term):
        n, head, parts = term
        parts = [change(part) for part in parts]
        if head[0] == "h":
            parts = [parts[j] for j in orders[head[1]]]
            head = ("h", numbers[head[1]])
        return (n, head, tuple(parts))

    return tuple(types), tuple(change(value) for value in values)


class Tidied(unittest.TestCase):
    def test_without_holes(self):
        self.assertEqual(tidy((), (), ()), ((), ()))
        self.assertEqual(tidy((A, AA), (), (C, (1, ("b", 0), ()))), ((), (C, (1, ("b", 0), ()))))
        self.assertEqual(tidy((A,), (A, AA), (C,)), ((), (C,)))
        self.assertEqual(tidy((), (A, AA), ()), ((), ()))

    def test_numbers(self):
        self.assertEqual(tidy((A,), (B, A), (h(1),)), ((A,), (h(0),)))
        self.assertEqual(tidy((A, B), (B, A), (h(1), h(0))), ((A, B), (h(0), h(1))))
        self.assertEqual(tidy((A, A), (B, A), (h(1), h(1))), ((A,), (h(0), h(0))))
        self.assertEqual(tidy((A, A), (A, A, A), (c("f", h(2), h(0)), c("f", h(0), h(1)))),
                         ((A, A, A), (c("f", h(0), h(1)), c("f", h(1), h(2)))))
        # In the order of reading: a term ahead of its parts, from left to right.
        value = c("f", c("f", c("s", h(3)), h(1)), c("f", h(3), h(0)))
        self.assertEqual(tidy((A,), (A, A, B, A), (value,)),
                         ((A, A, A), (c("f", c("f", c("s", h(0)), h(1)), c("f", h(0), h(2))),)))

    def test_numbers_keep_their_types(self):
        value = c("g", h(3), c("s", h(1)))
        self.assertEqual(tidy((B,), (AA, A, GA, B), (value,)), ((B, A), (c("g", h(0), c("s", h(1))),)))

    def test_order_of_arguments(self):
        kind = ((A, B), "a")
        other = ((B, A), "a")
        right, wrong = (2, ("h", 0), (b(1), b(0))), (2, ("h", 0), (b(0), b(1)))
        self.assertEqual(tidy((kind,), (kind,), (right,)), ((kind,), (right,)))
        self.assertEqual(tidy((kind,), (other,), (wrong,)), ((kind,), (right,)))
        # The first place alone says the order.
        values = ((2, ("h", 0), (b(0), b(1))), (2, ("h", 0), (b(1), b(0))))
        self.assertEqual(tidy((AAA, AAA), (AAA,), values), ((AAA,), (values[1], values[0])))
        values = (values[1], values[0])
        self.assertEqual(tidy((AAA, AAA), (AAA,), values), ((AAA,), values))

    def test_three_arguments(self):
        kind = ((A, B, AA), "a")
        eta = (1, ("b", 2), (b(0),))
        told = ((((B, AA, A), "a"),), ((3, ("h", 0), (b(2), eta, b(0))),))
        old = (((B, AA, A), "a"),)
        self.assertEqual(tidy(old, (kind,), ((3, ("h", 0), (b(0), b(2), eta)),)), told)
        self.assertEqual(tidy(old, (((AA, A, B), "a"),), ((3, ("h", 0), (eta, b(0), b(2))),)), told)

    def test_outermost_first(self):
        # Numbers are those at the place, also where the parts have binders of their own.
        old = (((AA, A), "a"),)
        value = (2, ("h", 0), (b(0), (1, ("b", 2), (b(0),))))
        self.assertEqual(tidy(old, (((A, AA), "a"),), (value,)),
                         ((((AA, A), "a"),), ((2, ("h", 0), ((1, ("b", 2), (b(0),)), b(0))),)))
        old = (((A, AA), "a"),)
        value = (2, ("h", 0), (ETA, b(1)))
        self.assertEqual(tidy(old, (((AA, A), "a"),), (value,)), ((((A, AA), "a"),), ((2, ("h", 0), (b(1), ETA)),)))

    def test_some_binders_are_no_parts(self):
        value = (3, ("c", "f"), ((0, ("h", 1), (b(0), b(2))), (0, ("h", 0), (b(1),))))
        self.assertEqual(tidy((((A, A, A), "a"),), (AA, AAA), (value,)),
                         ((AAA, AA), ((3, ("c", "f"), (h(0, b(2), b(0)), h(1, b(1)))),)))

    def test_below_further_binders(self):
        value = (1, ("c", "lam"), ((1, ("h", 0), (b(0), b(1))),))
        self.assertEqual(tidy((AA,), (AAA,), (value,)), ((AAA,), ((1, ("c", "lam"), ((1, ("h", 0), (b(1), b(0))),)),)))

    def test_unchanged(self):
        for kind in KINDS:
            self.assertEqual(tidy((kind,), (kind,), unchanged((kind,))), ((kind,), unchanged((kind,))))
        self.assertEqual(tidy(KINDS, KINDS, unchanged(KINDS)), (KINDS, unchanged(KINDS)))

    def test_no_limits(self):
        types, values = tidy((A, A), (B, A), (c("f", bush(2500), h(1)), chain(120, h(1))))
        self.assertEqual((types, values), ((A,), (c("f", bush(2500), h(0)), chain(120, h(0)))))

    def test_any_filling(self):
        rng = random_numbers(11)
        moved = 0
        for _ in range(300):
            old = any_kinds(rng, 3)
            new, values = any_pattern_filling(rng, old)
            types, told = tidy(old, new, values)
            self.assertTrue(is_plain_data((types, told)))
            self.assertTrue(is_tidy(types, told))
            self.assertIs(is_filling(SIGNATURE, old, types, told), True)
            for k in range(len(old)):
                self.assertIs(is_pattern(SIGNATURE, types, (), old[k], told[k]), True)
            self.assertEqual(tidy(old, types, told), (types, told))
            self.assertEqual([nodes(value) for value in told], [nodes(value) for value in values])
            # It is the same one but for the names of the holes.
            self.assertEqual(compose(told, more(old, types, told, values)), values)
            for _ in range(3):
                other_new, others = changed(rng, new, values)
                self.assertIs(is_filling(SIGNATURE, old, other_new, others), True)
                self.assertEqual(tidy(old, other_new, others), (types, told))
                moved += others != values
        self.assertGreater(moved, 100)

    def test_arguments_stay(self):
        old, new, values = (A, A), (A, AA), (h(0), c("lam", (1, ("h", 1), (b(0),))))
        told = tidy(old, new, values), more(old, new, values, values)
        self.assertEqual((tidy(old, new, values), more(old, new, values, values)), told)
        self.assertEqual((old, new, values), ((A, A), (A, AA), (h(0), c("lam", (1, ("h", 1), (b(0),))))))


class MoreOf(unittest.TestCase):
    def test_without_holes(self):
        self.assertEqual(more((), (), (), ()), ())
        self.assertEqual(more((A,), (), (C,), (C,)), ())
        self.assertIsNone(more((A,), (), (C,), (c("o"),)))
        self.assertIsNone(more((A,), (), (C,), (h(0),)))
        self.assertIsNone(more((A,), (), (C,), (chain(1),)))
        self.assertIsNone(more((A, B), (), (C, D), (C, h(0))))
        self.assertIsNone(more((AAA,), (), ((2, ("b", 0), ()),), ((2, ("b", 1), ()),)))

    def test_by_hand(self):
        self.assertEqual(more((A,), (A,), (h(0),), (C,)), (C,))
        self.assertEqual(more((A,), (A,), (h(0),), (h(5),)), (h(5),))
        self.assertEqual(more((A,), (A,), (chain(2, h(0)),), (chain(3),)), (chain(1),))
        self.assertEqual(more((A, B), (A, B), (h(0), h(1)), (C, D)), (C, D))
        self.assertEqual(more((A,), (A, A), (c("f", h(0), h(1)),), (c("f", h(7), C),)), (h(7), C))
        self.assertEqual(more((AA,), (AA,), ((1, ("h", 0), (b(0),)),), ((1, ("c", "f"), (b(0), C)),)),
                         ((1, ("c", "f"), (b(0), C)),))
        self.assertEqual(more((AAA,), (AA,), ((2, ("h", 0), (b(1),)),), ((2, ("c", "f"), (b(1), C)),)),
                         ((1, ("c", "f"), (b(0), C)),))
        self.assertEqual(more((AAA,), (AA,), ((2, ("h", 0), (b(0),)),), ((2, ("c", "s"), (b(0),)),)),
                         ((1, ("c", "s"), (b(0),)),))

    def test_below_further_binders(self):
        values = ((1, ("c", "lam"), ((1, ("h", 0), (b(1), b(0))),)),)
        others = ((1, ("c", "lam"), ((1, ("c", "lam"), ((1, ("b", 2), ()),)),)),)
        self.assertEqual(more((AA,), (AAA,), values, others), ((2, ("c", "lam"), ((1, ("b", 2), ()),)),))
        others = ((1, ("c", "lam"), ((1, ("c", "lam"), ((1, ("b", 0), ()),)),)),)
        self.assertEqual(more((AA,), (AAA,), values, others), ((2, ("c", "lam"), ((1, ("b", 0), ()),)),))
        others = ((1, ("c", "lam"), ((1, ("c", "lam"), ((1, ("c", "f"), (b(1), b(2))),)),)),)
        self.assertEqual(more((AA,), (AAA,), values, others), ((2, ("c", "lam"), ((1, ("c", "f"), (b(1), b(2))),)),))

    def test_functions_as_parts(self):
        values = ((1, ("h", 0), (ETA,)),)
        others = ((1, ("b", 0), (b(0, C),)),)
        self.assertEqual(more((FA,), (FA,), values, others), ((1, ("b", 0), (b(0, C),)),))
        values = ((2, ("h", 0), ((1, ("b", 2), (b(0),)),)),)
        others = ((2, ("b", 1), (b(1, C),)),)
        self.assertEqual(more((FAA,), (FA,), values, others), ((1, ("b", 0), (b(0, C),)),))
        others = ((2, ("b", 1), (b(0),)),)
        self.assertIsNone(more((FAA,), (FA,), values, others))

    def test_heads_that_differ(self):
        for value, other in (
            (c("s", h(0)), C), (c("s", h(0)), h(0)), (c("s", h(0)), c("f", C, C)), (c("f", C, h(0)), c("f", h(0), C)),
            (c("lam", (1, ("b", 0), ())), c("lam", (1, ("c", "c"), ()))), (c("f", h(0), C), c("f", C, c("o"))),
            (c("f", h(0), chain(3)), c("f", h(0), chain(4))),
            (c("lam", (1, ("c", "s"), (h(0),))), c("lam", (1, ("b", 0), ()))),
        ):
            with self.subTest(value=value, other=other):
                self.assertIsNone(more((A,), (A,), (value,), (other,)))
                self.assertIsNone(more((A, A), (A,), (value, C), (other, C)))
                self.assertIsNone(more((A, A), (A,), (h(0), value), (C, other)))

    def test_a_hole_that_occurs_several_times(self):
        value = c("f", h(0), h(0))
        self.assertEqual(more((A,), (A,), (value,), (c("f", chain(2), chain(2)),)), (chain(2),))
        self.assertIsNone(more((A,), (A,), (value,), (c("f", chain(2), chain(1)),)))
        self.assertIsNone(more((A,), (A,), (value,), (c("f", h(0), h(1)),)))
        self.assertEqual(more((A, A), (A,), (h(0), h(0)), (h(3), h(3))), (h(3),))
        self.assertIsNone(more((A, A), (A,), (h(0), h(0)), (h(3), h(2))))
        # With its parts in another order.
        values = ((2, ("h", 0), (b(1), b(0))), (2, ("h", 0), (b(0), b(1))))
        others = ((2, ("c", "f"), (b(1), b(0))), (2, ("c", "f"), (b(0), b(1))))
        self.assertEqual(more((AAA, AAA), (AAA,), values, others), (others[0],))
        self.assertIsNone(more((AAA, AAA), (AAA,), values, (others[0], others[0])))
        self.assertIsNone(more((AAA, AAA), (AAA,), values, (others[0], (2, ("c", "f"), (b(0), b(0))))))

    def test_binders_that_are_no_parts(self):
        values = ((2, ("h", 0), (b(1),)),)
        self.assertEqual(more((AAA,), (AA,), values, ((2, ("b", 1), ()),)), ((1, ("b", 0), ()),))
        self.assertIsNone(more((AAA,), (AA,), values, ((2, ("b", 0), ()),)))
        self.assertIsNone(more((AAA,), (AA,), values, ((2, ("c", "f"), (b(1), b(0))),)))
        self.assertIsNone(more((AAA,), (AA,), values, ((2, ("c", "lam"), ((1, ("b", 1), ()),)),)))
        self.assertEqual(more((AAA,), (AA,), values, ((2, ("c", "lam"), ((1, ("b", 0), ()),)),)),
                         ((1, ("c", "lam"), ((1, ("b", 0), ()),)),))
        self.assertEqual(more((AAA,), (AA,), values, ((2, ("c", "lam"), ((1, ("b", 2), ()),)),)),
                         ((1, ("c", "lam"), ((1, ("b", 1), ()),)),))
        self.assertIsNone(more((AA,), (A,), ((1, ("h", 0), ()),), ((1, ("b", 0), ()),)))
        self.assertEqual(more((AA,), (A,), ((1, ("h", 0), ()),), (bound(1, C),)), (C,))

    def test_holes_in_others_are_left_as_they_are(self):
        values = ((2, ("h", 0), (b(1),)),)
        self.assertEqual(more((AAA,), (AA,), values, ((2, ("h", 3), (b(1), b(1))),)), ((1, ("h", 3), (b(0), b(0))),))
        self.assertEqual(more((AAA,), (AA,), values, ((2, ("h", 3), (h(2), c("s", b(1)))),)),
                         ((1, ("h", 3), (h(2), c("s", b(0)))),))
        self.assertIsNone(more((AAA,), (AA,), values, ((2, ("h", 3), (b(0), b(1))),)))

    def test_no_limit_error(self):
        self.assertEqual(more((A,), (A,), (h(0),), (bush(2000),)), (bush(2000),))
        self.assertEqual(more((A,), (A,), (h(0),), (bush(2500),)), (bush(2500),))
        self.assertEqual(more((A,), (A,), (chain(20, h(0)),), (chain(99),)), (chain(79),))
        self.assertEqual(more((A,), (A,), (chain(20, h(0)),), (chain(150),)), (chain(130),))
        self.assertEqual(more((A,) * 3, (A,), (h(0),) * 3, (bush(2000),) * 3), (bush(2000),))
        self.assertIsNone(more((A,) * 3, (A,), (h(0),) * 3, (bush(2000), bush(2000), bush(1999))))
        self.assertIsNone(more((A,), (A,), (c("s", h(0)),), (bush(2500),)))

    def test_any_instance(self):
        rng = random_numbers(12)
        found = 0
        for _ in range(300):
            old = any_kinds(rng, 3)
            new, values = tidy(old, *any_pattern_filling(rng, old))
            last = any_kinds(rng, 2)
            behind = tuple(any_small(rng, last, (), kind, 12) for kind in new)
            others = compose(values, behind)
            told = more(old, new, values, others)
            self.assertTrue(is_plain_data(told))
            self.assertEqual(told, behind)
            found += len(told) > 0
        self.assertGreater(found, 100)

    def test_any_filling(self):
        rng = random_numbers(13)
        seen = [0, 0]
        for _ in range(3000):
            old = any_kinds(rng, 2)
            new, values = tidy(old, *any_pattern_filling(rng, old))
            others = tuple(near(rng, value) for value in compose(values, small_filling(rng, new)))
            if not is_filling(SIGNATURE, old, (A, B), others):
                continue
            told = more(old, new, values, others)
            seen[told is not None] += 1
            if told is None:
                self.assertFalse(is_instance(new, values, others))
            else:
                self.assertIs(is_filling(SIGNATURE, new, (A, B), told), True)
                self.assertEqual(compose(values, told), others)
        self.assertGreater(min(seen), 50)


def small_filling(rng, new):
    return tuple(any_term(rng, (A, B), (), kind, 1) for kind in new)


def near(rng, term):
    """The term, or one in which a head is another one (which need not have the type)."""
    if rng.randrange(2):
        return term
    all_nodes = subterms(term)
    spot = rng.randrange(len(all_nodes))
    n, head, parts = all_nodes[spot]
    heads = [("c", "c"), ("c", "o"), ("c", "d"), ("h", 0), ("h", 1), ("b", 0), ("b", 1), ("b", 2), ("b", 3)]
    if parts:
        heads = [("c", "s"), ("c", "f"), ("b", 0), ("b", 1), ("b", 2), ("b", 3)]
    return put(term, spot, (n, rng.choice(heads), parts))


def put(term, spot, node):
    """The term with the node in the place of the one with this number in the order of reading."""
    if spot == 0:
        return node
    parts = []
    spot -= 1
    for part in term[2]:
        parts.append(put(part, spot, node) if 0 <= spot < nodes(part) else part)
        spot -= nodes(part)
    return (term[0], term[1], tuple(parts))


def is_instance(new, values, others):
    """Point 19 by its words: whether the values filled with what stands at the first places are the others."""
    choices = [None] * len(new)
    for value, other in zip(values, others):
        for term, place in pairs(value, other):
            if term[1][0] == "h":
                candidate = named(place, [number_of(part) for part in term[2]])
                if candidate is None:
                    return False
                if choices[term[1][1]] is None:
                    choices[term[1][1]] = candidate
    if None in choices:
        return False
    return compose(values, tuple(choices)) == others


def pairs(term, other):
    found = [(term, other)]
    if term[1] == other[1]:
        for part, other_part in zip(term[2], other[2]):
            found += pairs(part, other_part)
    return found


def named(term, numbers, inner=None):
    """The term as the value of a hole whose parts are the binders with these numbers, or None."""
    top = inner is None
    inner = 0 if top else inner + term[0]
    head = term[1]
    if head[0] == "b" and head[1] >= inner:
        if head[1] - inner not in numbers:
            return None
        head = ("b", len(numbers) - 1 - numbers.index(head[1] - inner) + inner)
    parts = [named(part, numbers, inner) for part in term[2]]
    if None in parts:
        return None
    return (len(numbers) if top else term[0], head, tuple(parts))


class Samples(unittest.TestCase):
    def test_fillings_are_patterns(self):
        rng = random_numbers(14)
        for _ in range(100):
            old = any_kinds(rng, 3)
            new, values = any_pattern_filling(rng, old)
            self.assertIs(is_filling(SIGNATURE, old, new, values), True)
            holes = []
            term = any_pattern(rng, holes, (A, AA), A, 3)
            self.assertEqual(fill(unchanged(tuple(holes)), term), term)
        self.assertEqual(long_row([0, 1], (A, AA)), (ETA, b(1)))
        self.assertEqual(long(("b", 0), AA, 1), ETA)


if __name__ == "__main__":
    unittest.main()
