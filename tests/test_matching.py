"""Points 30 to 36, and the limits behind them."""

import unittest

from lacuna.errors import LimitError
from lacuna.filling import compose, is_filling, more_of, tidied
from lacuna.matching import MOST_ANSWERS, answers, is_matching, match, tree
from lacuna.patterns import is_problem, solves

from tests.equations import SECOND, any_tree, begin, in_order, ways_words
from tests.formulas import JUNK, alike, replaced, spots, twisted
from tests.samples import (
    A, AA, AAA, B, BA, C, D, FA, FIVE, SIGNATURE, any_term, b, bound, bush, c, chain, depth, expected_fill, h,
    is_plain_data, nodes, random_numbers, subterms,
)

ONE = (1, ("b", 0), ())
SMALL = tuple(entry for entry in SECOND if entry[0] in ("c", "f", "s", "o"))
KINDS = (A, B, AA, AAA, ((A, B), "a"), ((B,), "b"), BA, ((A, A, B), "b"))
PREFIXES = (A, B, AA, AAA, FA, BA)
FIVES = SMALL + (("five", FIVE),)


def matching(holes, *equations, signature=SECOND):
    return (signature, holes, equations)


def even(leaves):
    """A term of f and c with so many c in it."""
    if leaves == 1:
        return C
    return c("f", even(leaves // 2), even(leaves - leaves // 2))


def any_matching(rng):
    """A matching, mostly with a solution, and a filling that was meant to be one."""
    holes = tuple(rng.choice(KINDS) for _ in range(rng.randrange(1, 4)))
    values = tuple(any_term(rng, (), (), kind, rng.randrange(3), SECOND) for kind in holes)
    equations = []
    while len(equations) < 1 or rng.randrange(2):
        prefix = tuple(rng.choice(PREFIXES) for _ in range(rng.randrange(3)))
        kind = rng.choice((A, B, AA, FA))
        left = any_term(rng, holes, prefix, kind, rng.randrange(1, 3), SECOND)
        if rng.randrange(2):
            k = rng.randrange(len(holes))
            parts = tuple(any_term(rng, holes, prefix, part, 1, SECOND) for part in holes[k][0])
            kind, left = ((), holes[k][1]), (0, ("h", k), parts)
        right = expected_fill(SECOND, (), values, prefix, kind, left)
        if rng.randrange(8) == 0:
            right = any_term(rng, (), prefix, kind, rng.randrange(3), SECOND)
        if nodes(left) < 25 and nodes(right) < 10:
            equations.append((prefix, kind, left, right))
    return matching(holes, *equations), values


class IsMatching(unittest.TestCase):
    def test_right_ones(self):
        for value in (
            ((), (), ()), matching(()), matching((A, AA, FIVE)),
            matching((AA,), ((), A, h(0, C), C)),
            matching((AA,), ((A,), A, h(0, h(0, b(0))), b(0)), ((), A, C, c("o"))),
            # Sides of function types, and binders of function types in the prefix.
            matching((BA,), ((B, AA), AA, (1, ("h", 0), (b(2),)), (1, ("b", 1), (c("s", b(0)),)))),
            # A predicate may have any arguments.
            matching((AA,), signature=(("pred", ((FA, ((FA,), "a")), "o")),)),
        ):
            with self.subTest(value=value):
                self.assertIs(is_matching(value), True)

    def test_wrong_ones(self):
        for value in (
            None, True, 3, (), ((), ()),
            # A hole on the right, also where it plays no part.
            matching((A,), ((), A, C, h(0))), matching((A,), ((), A, h(0), h(0))),
            matching((AA,), ((), A, C, c("f", C, h(0, C)))), matching((AA,), ((), A, h(0, C), C), ((), A, C, h(0, C))),
            matching((A,), ((), AA, bound(1, C), bound(1, h(0)))),
            # A hole with a function as argument.
            matching((FA,)), matching((A, ((B, AA), "b"))), matching((FA,), ((), A, C, C)),
            # A constant one of whose arguments has a function as its own argument.
            matching((A,), signature=(("it", ((FA,), "a")),)), matching((A,), signature=SIGNATURE),
            matching((A,), ((), A, h(0), C), signature=SECOND + (("it", ((A, FA), "b")),)),
            # No problems.
            matching((A,), ((), A, h(1), C)), matching((A,), ((), A, h(0), D)), matching((A,), ((), A, h(False), C)),
            matching((A,), ((), A, (False, ("h", 0), ()), C)),
        ):
            with self.subTest(value=value):
                self.assertIs(is_matching(value), False)

    def test_each_part_replaced(self):
        right = (SMALL, (A, AA), (((A,), A, c("f", b(0), h(0)), C), ((), AA, (1, ("h", 1), (b(0),)), bound(1, C))))
        self.assertIs(is_matching(right), True)
        for path in spots(right):
            for junk in JUNK + (AA, FA, ((FA,), "a"), h(0), True, False):
                value = replaced(right, path, junk)
                self.assertIs(is_matching(value), self.by_words(value), value)

    def by_words(self, value):
        if not is_problem(value):
            return False
        signature, holes, equations = value
        if any(node[1][0] == "h" for row in equations for node in subterms(row[3])):
            return False
        kinds = holes + tuple(part for _, kind in signature if kind[1] != "o" for part in kind[0])
        return all(part[0] == () for kind in kinds for part in kind[0])

    def test_any(self):
        rng = random_numbers(40)
        for _ in range(200):
            value, _ = any_matching(rng)
            self.assertIs(is_matching(value), True)
            for _ in range(3):
                other = (twisted if rng.randrange(2) else alike)(rng, value)
                self.assertIs(is_matching(other), self.by_words(other))


class ByHand(unittest.TestCase):
    def check(self, value, *told):
        self.assertTrue(is_matching(value))
        self.assertEqual(match(value), list(told))
        self.assertEqual(answers(value, tree(value)), list(told))

    def test_examples(self):
        two = c("f", C, C)
        self.check(matching((AA,), ((), A, h(0, C), two)),
                   *[((), (bound(1, c("f", x, y)),)) for x in (b(0), C) for y in (b(0), C)])
        stays = (1, ("h", 0), (b(0),))
        self.check(matching((AA, AA), ((), A, h(0, h(1, C)), C)),
                   ((), (ONE, ONE)), ((), (ONE, bound(1, C))), ((AA,), (bound(1, C), stays)))

    def test_no_equations(self):
        self.check(matching(()), ((), ()))
        self.check(matching((A, BA)), ((A, BA), (h(0), (1, ("h", 1), (b(0),)))))
        self.check(matching((A,), ((), A, c("f", C, C), c("f", C, C))), ((A,), (h(0),)))
        self.check(matching((((A, B), "a"),)), ((((A, B), "a"),), ((2, ("h", 0), (b(1), b(0))),)))

    def test_clash(self):
        self.check(matching((A,), ((), A, C, c("o"))))
        self.check(matching((A,), ((), A, h(0), C), ((), A, h(0), c("o"))))
        self.assertEqual(tree(matching((A,), ((), A, C, c("o")))), ("clash",))

    def test_projections(self):
        three = ((A, B, A), "a")
        self.check(matching((three,), ((A,), A, h(0, b(0), D, b(0)), b(0))),
                   ((), ((3, ("b", 0), ()),)), ((), ((3, ("b", 2), ()),)))
        self.check(matching((three,), ((A, A), A, h(0, b(0), D, b(1)), b(0))), ((), ((3, ("b", 2), ()),)))
        self.check(matching((three,), ((A, A), A, h(0, b(0), D, b(1)), b(1))), ((), ((3, ("b", 0), ()),)))
        # A binder is not copied, and a binder of another sort is no projection.
        self.check(matching((three,), ((A, A), A, h(0, C, D, C), b(0))))
        self.check(matching((((B,), "a"),), ((), A, h(0, D), C)), ((), (bound(1, C),)))
        self.check(matching((A,), ((A,), A, h(0), b(0))))
        self.check(matching((AA,), ((AA,), A, h(0, C), b(0, C))))

    def test_projection_below_a_binder(self):
        self.check(matching((AA,), ((AA, A), A, h(0, b(0)), b(0))), ((), (ONE,)))
        self.check(matching((AA,), ((AA, A), A, h(0, b(1, b(0))), b(1, b(0)))), ((), (ONE,)))
        self.check(matching((AA,), ((AA,), AA, (1, ("h", 0), (b(1, b(0)),)), (1, ("b", 1), (b(0),)))), ((), (ONE,)))
        value = bound(1, c("lam", (1, ("b", 1), ())))
        self.check(matching((AA,), ((A,), A, h(0, b(0)), c("lam", (1, ("b", 1), ())))), ((), (value,)))

    def test_copies_with_functions_as_parts(self):
        # The own binder of a copied part is none of the hole's arguments, but one of the new hole.
        lam = c("lam", (1, ("c", "f"), (b(0), C)))
        self.check(matching((AA,), ((), A, h(0, C), lam)),
                   ((), (bound(1, c("lam", (1, ("c", "f"), (b(0), b(1))))),)),
                   ((), (bound(1, c("lam", (1, ("c", "f"), (b(0), C)))),)))
        self.check(matching((A,), ((), A, h(0), lam)), ((), (lam,)))
        self.check(matching((((A,), "b"),), ((), B, h(0, C), c("k", (2, ("b", 1), ()), D))),
                   ((), (bound(1, c("k", (2, ("b", 1), ()), D)),)))
        self.check(matching((AA,), ((), A, h(0, lam), lam)), ((), (ONE,)), ((), (bound(1, lam),)))

    def test_holes_in_parts_of_holes(self):
        # F (F c) = s (s c): both once, or all at once, or what forgets its part.
        self.check(matching((AA,), ((), A, h(0, h(0, C)), chain(2))),
                   ((), (bound(1, c("s", b(0))),)), ((), (bound(1, chain(2)),)))
        self.check(matching((AA,), ((), A, h(0, h(0, C)), C)), ((), (ONE,)), ((), (bound(1, C),)))
        # The hole that stays is told with the types of its arguments.
        self.check(matching((AA, AA), ((), A, h(0, h(1, C)), chain(1))),
                   ((), (ONE, (1, ("c", "s"), (b(0),)))), ((), (ONE, bound(1, chain(1)))),
                   ((), ((1, ("c", "s"), (b(0),)), ONE)), ((), ((1, ("c", "s"), (b(0),)), bound(1, C))),
                   ((AA,), (bound(1, chain(1)), (1, ("h", 0), (b(0),)))))

    def test_more_equations(self):
        first, second = ((), A, h(0, C), c("f", C, C)), ((), A, h(0, c("o")), c("f", c("o"), C))
        self.check(matching((AA,), first, second), ((), (bound(1, c("f", b(0), C)),)))
        self.check(matching((AA,), second, first), ((), (bound(1, c("f", b(0), C)),)))
        self.check(matching((AA, A), first, second, ((), A, h(1), C)), ((), (bound(1, c("f", b(0), C)), C)))
        self.check(matching((AA,), first, ((), A, h(0, c("o")), c("f", c("o"), c("o")))),
                   ((), (bound(1, c("f", b(0), b(0))),)))
        self.check(matching((AA,), first, ((), A, h(0, c("o")), C)))

    def test_order(self):
        # Binders ahead of constants, constants by their names, and inner binders first.
        two = ((A, A), "a")
        told = match(matching((two,), ((), A, h(0, C, C), C)))
        self.assertEqual([value for _, (value,) in told], [(2, ("b", 0), ()), (2, ("b", 1), ()), (2, ("c", "c"), ())])
        told = match(matching((AA, AA), ((), A, c("f", h(0, C), h(1, C)), c("f", C, C))))
        self.assertEqual([values for _, values in told],
                         [(ONE, ONE), (ONE, bound(1, C)), (bound(1, C), ONE), (bound(1, C), bound(1, C))])
        told = match(matching((AA,), ((), A, h(0, chain(2)), chain(4))))
        self.assertEqual([value for _, (value,) in told], [bound(1, chain(2, b(0))), bound(1, chain(4))])
        told = match(matching((AA, AA), ((), A, h(0, c("f", h(1, C), h(1, C))), c("f", C, C))))
        rows = [[node[1] for value in values for node in subterms(value)] for _, values in told]
        self.assertEqual(rows, sorted(rows))
        self.assertIn([("c", "f"), ("c", "c"), ("c", "c"), ("h", 0), ("b", 0)], rows)


class Trees(unittest.TestCase):
    def test_by_hand(self):
        value = matching((AA,), ((), A, h(0, C), C))
        answer = [((), (ONE,)), ((), (bound(1, C),))]
        right = ("choose", 0, (("answer",), ("answer",)))
        self.assertEqual(answers(value, right), answer)
        self.assertEqual(tree(value), right)
        for wrong in (
            ("answer",), ("clash",), ("choose", 0, ()), ("choose", 0, (("answer",),)),
            ("choose", 0, (("answer",), ("clash",))), ("choose", 0, (("clash",), ("answer",))),
            ("choose", 0, (("answer",),) * 3), ("choose", 1, (("answer",), ("answer",))),
            ("choose", -1, (("answer",), ("answer",))), ("choose", False, (("answer",), ("answer",))),
            ("choose", 0, (("answer",), ("choose", 0, ()))), ("choose", 0), ("choose", (("answer",), ("answer",))),
            ("choose", 0, (("answer",), ("answer",)), ()), ("answer", 0), (("choose", 0, (("answer",), ("answer",))),),
            ("Choose", 0, (("answer",), ("answer",))), ("choose", 0, ("answer", "answer")), ("choose", 0, None),
            ("choose", "0", (("answer",), ("answer",))), ("choose", None, (("answer",), ("answer",))),
        ) + JUNK:
            with self.subTest(wrong=wrong):
                self.assertIsNone(answers(value, wrong))

    def test_clash_and_answer(self):
        for value, right in (
            (matching((A,), ((), A, C, c("o"))), ("clash",)), (matching((A,)), ("answer",)),
            (matching((A,), ((A,), A, h(0), b(0))), ("choose", 0, ())),
            (matching((AA,), ((A,), A, h(0, b(0)), C)), ("choose", 0, (("answer",), ("clash",)))),
        ):
            for other in (("clash",), ("answer",), ("choose", 0, ()), ("choose", 0, (("answer",), ("clash",)))):
                told = answers(value, other)
                self.assertEqual(told is not None, other == right)
                if other == right:
                    self.assertEqual(told, match(value))

    def test_each_choice(self):
        value = matching((AA, AA), ((), A, h(0, C), C), ((), A, h(1, c("o")), C))
        one = ("choose", 0, (("choose", 0, (("answer",), ("clash",))), ("choose", 0, (("answer",), ("clash",)))))
        other = ("choose", 1, (("choose", 0, (("answer",), ("answer",))), ("clash",)))
        self.assertEqual(answers(value, one), match(value))
        self.assertEqual(answers(value, other), match(value))
        self.assertEqual(len(match(value)), 2)
        # The ways have an order: copying, and then the projections from the first argument on.
        value = matching((((A, A), "a"),), ((), A, h(0, C, c("o")), C))
        self.assertEqual(answers(value, ("choose", 0, (("answer",), ("answer",), ("clash",)))), match(value))
        self.assertIsNone(answers(value, ("choose", 0, (("answer",), ("clash",), ("answer",)))))
        self.assertIsNone(answers(value, ("choose", 0, (("clash",), ("answer",), ("answer",)))))

    def is_tree(self, state, value):
        if state.equations is None:
            return value == ("clash",)
        if not state.equations:
            return value == ("answer",)
        if type(value) is not tuple or len(value) != 3 or value[0] != "choose" or type(value[2]) is not tuple:
            return False
        if type(value[1]) is not int or not 0 <= value[1] < len(state.equations):
            return False
        ways = ways_words(state, value[1])
        return len(ways) == len(value[2]) and all(map(self.is_tree, ways, value[2]))

    def test_any(self):
        rng = random_numbers(41)
        many = [0, 0, 0]
        trees = {True: 0, False: 0}
        for _ in range(150):
            value, values = any_matching(rng)
            told = match(value)
            many[min(len(told), 2)] += 1
            self.assertTrue(is_plain_data(tuple(told)))
            self.assertTrue(self.is_tree(begin(value), tree(value)))
            self.assertEqual(answers(value, tree(value)), told)
            self.assertEqual(len(set(told)), len(told))
            for _ in range(2):
                try:
                    other, found = any_tree(rng, begin(value), [None] * 200)
                except IndexError:
                    continue
                self.assertEqual(in_order(found), told)
                self.assertEqual(answers(value, other), told)
                for changed in (twisted(rng, other), alike(rng, other)):
                    fits = self.is_tree(begin(value), changed)
                    self.assertEqual(answers(value, changed), told if fits else None)
                    trees[fits] += 1
        self.assertGreater(min(many), 10)
        self.assertGreater(min(trees.values()), 20)

    def test_each_solution_is_an_instance_of_one_answer(self):
        rng = random_numbers(42)
        seen = {True: 0, False: 0}
        for _ in range(120):
            value, values = any_matching(rng)
            told = match(value)
            for types, found in told:
                self.assertTrue(is_filling(SECOND, value[1], types, found))
                self.assertEqual(tidied(SECOND, value[1], types, found), (types, found))
                self.assertTrue(solves(value, types, found))
                more = tuple(any_term(rng, (), (), kind, 1, SECOND) for kind in types)
                self.assertTrue(solves(value, (), compose(found, more)))
            others = [tuple(any_term(rng, (), (), kind, 1, SECOND) for kind in value[1]) for _ in range(6)]
            for other in others + [values]:
                fits = [row for row in told if more_of(SECOND, value[1], row[0], row[1], other) is not None]
                self.assertEqual(len(fits), 1 if solves(value, (), other) else 0)
                seen[len(fits) == 1] += 1
        self.assertGreater(min(seen.values()), 100)

    def test_all_small_fillings(self):
        # Each filling of the hole by a small term is tried.
        small = [b(0), C, c("o")]
        for _ in range(2):
            small += [c("s", x) for x in small[:9]] + [c("f", x, y) for x in small[:5] for y in small[:5]]
        small = [bound(1, term) for term in dict.fromkeys(small)]
        for left, right in (
            (h(0, C), c("f", C, C)), (h(0, h(0, C)), chain(2)), (h(0, h(0, C)), C), (h(0, c("f", C, C)), c("f", C, C)),
            (h(0, c("s", h(0, C))), chain(3)), (c("f", h(0, C), h(0, c("o"))), c("f", C, c("o"))),
        ):
            value = matching((AA,), ((), A, left, right))
            told = match(value)
            for term in small:
                fits = [row for row in told if more_of(SECOND, (AA,), row[0], row[1], (term,)) is not None]
                self.assertEqual(len(fits), 1 if solves(value, (), (term,)) else 0, (left, right, term))


class Limits(unittest.TestCase):
    def too_many(self, value):
        for ask in (match, tree):
            with self.assertRaises(LimitError):
                ask(value)

    def test_number(self):
        self.assertEqual(MOST_ANSWERS, 1000)

    def test_answers(self):
        # Each c in the right side is told as c or as the binder.
        for leaves in (1, 2, 8, 9):
            value = matching((AA,), ((), A, h(0, C), even(leaves)), signature=SMALL)
            self.assertEqual(len(match(value)), 2 ** leaves)
            self.assertEqual(answers(value, tree(value)), match(value))
        self.too_many(matching((AA,), ((), A, h(0, C), even(10)), signature=SMALL))
        self.too_many(matching((AA,), ((), A, h(0, C), even(14)), signature=SMALL))

    def test_far_too_many(self):
        self.too_many(matching((FIVE,), ((), A, h(0, C, C, C, C, C), even(60)), signature=SMALL))
        self.too_many(matching((FIVE,) * 6, *[((), A, h(k, C, C, C, C, C), even(10)) for k in range(6)]))
        # There is no answer, but there are trees with far too many trees in them: this is told, or LimitError.
        rows = [((), A, h(k, C, C, C, C, C), C) for k in range(5)]
        try:
            self.assertEqual(match(matching((FIVE,) * 6, *rows, ((A,), A, h(5, C, C, C, C, C), b(0)))), [])
        except LimitError:
            pass

    def test_exactly_as_many_as_may_be(self):
        # 1000 = 10 * 10 * 10: three holes that have ten values each.
        nine = ((A,) * 9, "a")
        rows = [((), A, h(k, *[C] * 9), C) for k in range(3)]
        value = matching((nine,) * 3, *rows, signature=SMALL)
        self.assertEqual(len(match(value)), 1000)
        self.assertEqual(answers(value, tree(value)), match(value))
        ten = ((A,) * 10, "a")
        self.too_many(matching((ten, nine, nine), *[((), A, h(0, *[C] * 10), C)], *rows[1:], signature=SMALL))
        # The same with at most five arguments: 6 * 6 * 6 * 4 = 864 and 6 * 6 * 6 * 5 = 1080.
        for many, fits in ((3, True), (4, False)):
            holes = (FIVE,) * 3 + (((A,) * many, "a"),)
            rows = [((), A, h(k, *[C] * 5), C) for k in range(3)] + [((), A, h(3, *[C] * many), C)]
            value = matching(holes, *rows, signature=SMALL)
            if fits:
                self.assertEqual(len(match(value)), 864)
            else:
                self.too_many(value)

    def test_answers_of_a_tree(self):
        # A tree with too many answers is one all the same; what is no tree for the matching has none.
        value = matching((AA,), ((), A, h(0, C), even(10)), signature=SMALL)

        def whole(state):
            if not state.equations:
                return ("answer",)
            if state.equations[0][3] == C:
                return ("choose", 0, (whole(ways_words(state, 0)[0]),) * 2)
            return ("choose", 0, (whole(ways_words(state, 0)[0]), ("clash",)))

        told = whole(begin(value))
        with self.assertRaises(LimitError):
            answers(value, told)
        last = told
        path = ()
        while last[0] == "choose":
            at = 1 if last[2][1] != ("clash",) else 0
            path += (2, at)
            last = last[2][at]
        self.assertIsNone(answers(value, replaced(told, path, ("clash",))))

    def test_size_of_answers(self):
        # Below the limits behind which LimitError may be raised: at most 60 nodes on the right, and 6 holes.
        value = matching((A,), ((), A, h(0), bush(60)), signature=FIVES)
        self.assertEqual(match(value), [((), (bush(60),))])
        # The values of an answer are large only where the right sides are.
        for size, fits in ((166, True), (167, False)):
            value = matching((A,) * 12, *[((), A, h(k), bush(size)) for k in range(12)], signature=FIVES)
            self.large(value, fits, [((), (bush(size),) * 12)])
        for size, fits in ((99, True), (100, False)):
            value = matching((A, A), ((), A, h(0), chain(size)), signature=FIVES)
            self.large(value, fits, [((A,), (chain(size), h(0)))])

    def large(self, value, fits, told):
        for ask in (match, lambda value: answers(value, tree(value))):
            try:
                self.assertEqual(ask(value), told)
                self.assertTrue(fits)
            except LimitError:
                pass

    def test_large_lefts(self):
        # Large parts that are left out, or compared as a whole.
        value = matching((AA,), ((), A, h(0, bush(190)), bush(60)), signature=FIVES)
        self.assertEqual(match(value), [((), (bound(1, bush(60)),))])
        value = matching((AA,), ((), A, h(0, bush(60)), bush(60)), signature=FIVES)
        told = match(value)
        self.assertEqual(told[0], ((), (ONE,)))
        self.assertEqual(told[-1], ((), (bound(1, bush(60)),)))
        value = matching((AA,), ((), A, h(0, chain(20)), chain(50)), signature=FIVES)
        self.assertEqual(match(value), [((), (bound(1, chain(30, b(0))),)), ((), (bound(1, chain(50)),))])
        self.assertEqual(answers(value, tree(value)), match(value))

    def test_long_ways_down(self):
        # Forty choices within one another.
        value = matching((AA,) * 6, *[((), A, h(k, C), chain(9)) for k in range(6)], signature=SMALL)
        told = match(value)
        self.assertEqual(len(told), 64)
        self.assertEqual(answers(value, tree(value)), told)
        self.assertTrue(all(depth(term) == 10 for _, values in told for term in values))


if __name__ == "__main__":
    unittest.main()
