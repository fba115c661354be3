"""Points 24 and 25, and the limits behind them."""

import unittest

from lacuna.errors import LimitError
from lacuna.filling import compose, is_filling, more_of, tidied
from lacuna.patterns import follow, is_problem, row, solve, solves
from lacuna.terms import is_pattern

from tests.equations import Maker
from tests.samples import (
    A, AA, C, FIVE, KINDS, SIGNATURE, any_kinds, any_small, any_term, b, bound, bush, c, chain, depth, h, nodes,
    random_numbers,
)
from tests.test_steps import any_problem

NONE = ("none",)


def problem(holes, *equations):
    return (SIGNATURE, holes, equations)


def solvable(rng, many, waiting=False):
    """A problem, and a filling without holes that solves it."""
    maker = Maker(rng)
    for _ in range(rng.randrange(1, 4) if waiting else 0):
        maker.add(rng.choice(KINDS), 1)
    equations = []
    for _ in range(many):
        prefix, kind = any_kinds(rng, 3), rng.choice(KINDS)
        blurred = maker.blurred(prefix, kind) if waiting and rng.randrange(2) else None
        if blurred is None:
            term = any_small(rng, (), prefix, kind, 20)
            equations.append((prefix, kind, maker.vague(prefix, kind, term), maker.vague(prefix, kind, term)))
        else:
            equations.append((prefix, kind, blurred[0], maker.vague(prefix, kind, blurred[1])))
    return problem(tuple(maker.holes), *equations), tuple(maker.values)


def loose(equations):
    """Equations without their order and their sides."""
    return sorted((prefix, kind, sorted((left, right), key=repr)) for prefix, kind, left, right in equations)


class Answers(unittest.TestCase):
    def test_most_general(self):
        # Each solving filling is an instance of the answer; the answer solves what is not kept.
        rng = random_numbers(30)
        for _ in range(150):
            value, values = solvable(rng, rng.randrange(1, 4))
            self.assertTrue(solves(value, (), values))
            word, types, told, kept = solve(value)
            self.assertEqual((word, kept), ("filled", ()))
            self.assertTrue(is_filling(SIGNATURE, value[1], types, told))
            self.assertTrue(all(is_pattern(SIGNATURE, types, (), kind, term) for kind, term in zip(value[1], told)))
            self.assertEqual(tidied(SIGNATURE, value[1], types, told), (types, told))
            self.assertTrue(solves(value, types, told))
            more = more_of(SIGNATURE, value[1], types, told, values)
            self.assertIsNotNone(more)
            self.assertEqual(compose(told, more), values)

    def test_most_general_with_equations_kept(self):
        rng = random_numbers(31)
        count = 0
        for _ in range(150):
            value, values = solvable(rng, rng.randrange(1, 4), True)
            self.assertTrue(solves(value, (), values))
            word, types, told, kept = solve(value)
            self.assertEqual(word, "filled")
            self.assertTrue(is_problem((SIGNATURE, types, kept)))
            more = more_of(SIGNATURE, value[1], types, told, values)
            self.assertIsNotNone(more)
            self.assertTrue(solves((SIGNATURE, types, kept), (), more))
            count += bool(kept)
        self.assertGreater(count, 15)

    def test_none_has_no_solution(self):
        rng = random_numbers(32)
        count = 0
        for _ in range(200):
            value = any_problem(rng, rng.randrange(2) == 0)
            if solve(value) == NONE:
                count += 1
                for _ in range(20):
                    values = tuple(any_term(rng, (), (), kind, 2) for kind in value[1])
                    self.assertFalse(solves(value, (), values))
        self.assertGreater(count, 15)

    def test_instances_of_the_answer_solve(self):
        rng = random_numbers(33)
        for _ in range(100):
            value, _ = solvable(rng, 2)
            _, types, told, _ = solve(value)
            more = tuple(any_small(rng, (), (), kind, 8) for kind in types)
            self.assertTrue(solves(value, (), compose(told, more)))


class Order(unittest.TestCase):
    def test_order_and_sides(self):
        rng = random_numbers(34)
        count = 0
        for _ in range(150):
            value = any_problem(rng, True)
            told = solve(value)
            rows = list(value[2])
            rng.shuffle(rows)
            rows = [(p, k, right, left) if rng.randrange(2) else (p, k, left, right) for p, k, left, right in rows]
            other = solve((SIGNATURE, value[1], tuple(rows)))
            self.assertEqual(other[:3], told[:3])
            if told != NONE:
                self.assertEqual(loose(other[3]), loose(told[3]))
                count += len(told[3]) > 0
        self.assertGreater(count, 15)

    def test_kept_in_the_order_of_the_problem(self):
        rows = [((), A, h(0, c("o")), c("s", C)), ((), A, h(0, C), C), ((), A, C, h(0, c("s", C)))]
        for order in ((0, 1, 2), (2, 1, 0), (1, 2, 0)):
            value = problem((AA,), *[rows[j] for j in order])
            self.assertEqual(solve(value)[3], value[2])

    def test_numbers_of_the_holes(self):
        rng = random_numbers(35)
        for _ in range(60):
            value, _ = solvable(rng, 2)
            holes = value[1]
            order = rng.sample(range(len(holes)), len(holes))
            back = [order.index(k) for k in range(len(holes))]

            def change(term):
                n, head, parts = term
                if head[0] == "h":
                    head = ("h", back[head[1]])
                return (n, head, tuple(change(part) for part in parts))

            rows = tuple((p, k, change(left), change(right)) for p, k, left, right in value[2])
            _, types, told, _ = solve((SIGNATURE, tuple(holes[k] for k in order), rows))
            put_back = tidied(SIGNATURE, holes, types, tuple(told[back[k]] for k in range(len(holes))))
            self.assertEqual(put_back, solve(value)[1:3])

    def test_more_equations(self):
        rng = random_numbers(36)
        seen = {True: 0, False: 0}
        for _ in range(100):
            value = any_problem(rng, False)
            _, types, told, _ = solve(value[:2] + ((),))
            for many in range(len(value[2]) + 1):
                answer = solve(value[:2] + (value[2][:many],))
                seen[answer == NONE] += 1
                if answer == NONE:
                    self.assertEqual(solve(value), NONE)
                    break
                self.assertIsNotNone(more_of(SIGNATURE, value[1], types, told, answer[2]))
                types, told = answer[1:3]
        self.assertGreater(min(seen.values()), 10)


class Limits(unittest.TestCase):
    def fits(self, value, nodes_told, deep):
        told = solve(value)
        terms = told[2] + tuple(side for equation in told[3] for side in equation[2:])
        self.assertEqual(sum(map(nodes, terms)), nodes_told)
        self.assertEqual(max(map(depth, terms)), deep)
        self.assertEqual(follow(value, row(value)), told)

    def too_large(self, value, steps=None):
        for ask in (solve, row) + ((lambda value: follow(value, steps),) if steps is not None else ()):
            with self.assertRaises(LimitError):
                ask(value)

    def test_nodes_of_equations_kept(self):
        # The value has 2 nodes, each of the ten equations has a left side of 102 nodes and a right side.
        def kept(last):
            rows = [((), A, h(0, bush(101)), bush(97))] * 9 + [((), A, h(0, bush(101)), bush(last))]
            return problem((AA,), *rows)

        self.fits(kept(105), 2000, max(depth(bush(105)), depth(bush(101)) + 1))
        self.too_large(kept(106), ())
        self.too_large(kept(130), ())

    def test_nodes_of_both_sides(self):
        for left, right in ((994, 1003), (1, 1996), (1900, 97)):
            value = problem((AA,), ((), A, h(0, bush(left)), c("s", bush(right - 1))))
            self.assertEqual(solve(value)[3], value[2])
            value = problem((AA,), ((), A, h(0, bush(left)), c("s", bush(right))))
            self.too_large(value, ())
            value = problem((AA,), ((), A, h(0, bush(left + 1)), c("s", bush(right - 1))))
            self.too_large(value, ())

    def test_nodes_of_values(self):
        # Doubled again and again: the values have 1, 3, 7, .. nodes.
        def doubled(many, last):
            rows = [((), A, h(k), c("f", h(k + 1), h(k + 1))) for k in range(many)]
            return problem((A,) * (many + 1), *rows, ((), A, h(many), last))

        self.fits(doubled(8, C), sum(2 ** k - 1 for k in range(1, 10)), 9)
        self.too_large(doubled(10, C))
        self.too_large(doubled(11, C))
        value = problem((A,) * 12, *[((), A, h(k), bush(150)) for k in range(12)])
        self.fits(value, 1800, depth(bush(150)))
        self.too_large(problem((A,) * 12, *[((), A, h(k), bush(167)) for k in range(12)]))
        steps = tuple(("copy", 0, 0) for _ in range(12 * 167))
        self.too_large(problem((A,) * 12, *[((), A, h(k), bush(167)) for k in range(12)]), steps)

    def test_depth_of_values(self):
        def tower(top):
            rows = [((), A, h(k), chain(19, h(k + 1))) for k in range(5)]
            return problem((A,) * 6, *rows, ((), A, h(5), chain(top)))

        self.fits(tower(4), sum(19 * k + 5 for k in range(6)), 100)
        self.too_large(tower(5))
        self.too_large(tower(15))

    def test_depth_of_equations_kept(self):
        def kept(top):
            rows = [((), A, h(k), chain(19, h(k + 1))) for k in range(5)]
            return problem((A,) * 6 + (AA,), *rows, ((), A, h(6, chain(top, h(0))), C))

        self.fits(kept(3), sum(19 * k + 1 for k in range(6)) + 2 + 101, 100)
        self.too_large(kept(4))

    def test_what_is_not_told_does_not_count(self):
        # What is told is no values: terms on the way may be deep, and sides that come to nothing large.
        rows = [((), A, h(k), chain(18, h(k + 1))) for k in range(7)]
        self.assertEqual(solve(problem((A,) * 9, *rows, ((), A, h(8), c("s", h(8))))), NONE)
        self.assertEqual(solve(problem((A,) * 8, *rows, ((), A, h(7), c("s", h(7))))), NONE)
        self.assertEqual(solve(problem((A,) * 8, *rows, ((), A, h(0), c("o")))), NONE)
        rows = [((), A, bush(200), bush(200))] * 12
        self.assertEqual(solve(problem((A,), *rows)), ("filled", (A,), (h(0),), ()))
        self.assertEqual(row(problem((A,), *rows)), ())
        self.assertEqual(solve(problem((A,), *rows[:11], ((), A, bush(200), bush(199)))), NONE)
        self.assertEqual(solve(problem((A,), *rows[:11], ((), A, h(0), C))), ("filled", (), (C,), ()))
        # A waiting equation whose part is left out: what is left out is never built.
        forget = ((AA, A), "a")
        large = h(0, (1, ("h", 1), (b(0),)), h(0, (1, ("h", 1), (b(0),)), C))
        value = problem((forget, AA), ((AA, A), A, h(0, (1, ("b", 2), (b(0),)), b(0)), b(1, C)), ((), A, large, C),
                        ((A,), A, h(1, b(0)), C))
        self.assertEqual(solve(value), ("filled", (), ((2, ("b", 1), (C,)), bound(1, C)), ()))

    def test_very_deep_on_the_way(self):
        # Far deeper than what may be told; the answer is none all the same.
        def times(many, k, term):
            for _ in range(many):
                term = h(k, term)
            return term

        rows = (((A,), A, h(0, b(0)), chain(9, b(0))), ((A,), A, h(1, b(0)), times(9, 0, b(0))),
                ((), A, h(2), times(8, 1, C)), ((), A, h(2), times(8, 1, c("o"))))
        self.assertEqual(solve(problem((AA, AA, A), *rows)), NONE)
        self.too_large(problem((AA, AA, A), *rows[:3]))

    def test_what_grows_too_fast(self):
        term = C
        for _ in range(15):
            term = h(0, term)
        value = problem((AA,), ((), A, term, c("o")), ((A,), A, h(0, b(0)), c("five", b(0), b(0), b(0), b(0), b(0))))
        try:
            self.assertEqual(solve(value), NONE)
        except LimitError:
            pass
        term = h(1, *[h(1, *[h(1, *[h(1, *[h(1, C, C, C, C, C)] * 5)] * 5)] * 5)] * 5)
        self.too_large(problem((AA, FIVE), ((A,) * 5, A, h(1, *[b(k) for k in range(5)]),
                                            c("five", *[b(k) for k in range(5)])),
                               ((), A, h(0, C), term)))


if __name__ == "__main__":
    unittest.main()
