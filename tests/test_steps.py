"""Points 22 and 23: the steps, and what rows of them lead to."""

import unittest

from lacuna.patterns import follow, row, solve

from tests.equations import Maker, any_row, follow_words
from tests.formulas import JUNK, alike, replaced, twisted
from tests.samples import (
    A, AA, B, BA, C, FA, KINDS, SIGNATURE, any_kinds, any_small, any_term, b, bound, c, h, is_plain_data,
    random_numbers,
)

NONE = ("none",)


def problem(holes, *equations):
    return (SIGNATURE, holes, equations)


def filled(types, values, *kept):
    return ("filled", types, values, kept)


class ByHand(unittest.TestCase):
    def check(self, told, value, rows):
        for steps in rows:
            with self.subTest(steps=steps):
                self.assertEqual(follow(value, steps), told)
        self.assertEqual(solve(value), told)
        self.assertEqual(follow(value, row(value)), told)

    def test_no_steps(self):
        self.check(filled((), ()), problem(()), [()])
        self.check(filled((A, BA), (h(0), (1, ("h", 1), (b(0),)))), problem((A, BA)), [()])
        self.check(filled((A,), (h(0),)), problem((A,), ((), A, h(0), h(0)), ((), AA, bound(1, C), bound(1, C))), [()])
        # What the filling that changes nothing has is told tidy, too.
        self.check(filled((((A, AA), "a"),), ((2, ("h", 0), (b(1), (1, ("b", 1), (b(0),)))),)),
                   problem((((A, AA), "a"),)), [()])

    def test_clash_at_once(self):
        self.check(NONE, problem((A,), ((), A, C, c("o"))), [()])
        self.check(NONE, problem((A,), ((), A, h(0), C), ((A,), A, b(0), C)), [()])

    def test_copy_of_a_constant(self):
        self.check(filled((), (C,)), problem((A,), ((), A, h(0), C)), [(("copy", 0, 0),)])
        self.check(filled((), (C,)), problem((A,), ((), A, C, h(0))), [(("copy", 0, 1),)])
        value = problem((((A, A), "a"),), ((A, A), A, h(0, b(0), b(1)), c("f", b(0), b(1))))
        self.check(filled((), ((2, ("c", "f"), (b(1), b(0))),)), value,
                   [(("copy", 0, 0),) * 3, (("copy", 0, 0), ("copy", 1, 0), ("copy", 0, 0))])

    def test_copy_makes_holes_in_order(self):
        # The first step makes the holes 1 and 2, of which the second one is met with the hole 0 of the problem.
        value = problem((A, AA), ((A,), A, h(1, b(0)), c("f", h(0), b(0))))
        told = filled((A,), (h(0), (1, ("c", "f"), (h(0), b(0)))))
        self.check(told, value, [(("copy", 0, 0), ("meet", 0), ("copy", 0, 0)),
                                 (("copy", 0, 0), ("copy", 1, 0), ("meet", 0))])

    def test_copy_of_a_constant_with_functions_as_parts(self):
        value = problem((BA,), ((B,), A, h(0, b(0)), c("lam", (1, ("c", "f"), (b(0), c("lam", bound(1, C)))))))
        told = (1, ("c", "lam"), ((1, ("c", "f"), (b(0), c("lam", bound(1, C)))),))
        self.check(filled((), (told,)), value, [(("copy", 0, 0),) * 5])
        # The new holes get the binders of the hole ahead of the own binders of the part.
        value = problem((BA, ((A, B), "a")), ((B,), A, h(0, b(0)), c("lam", (1, ("h", 1), (b(0), b(1))))))
        told = filled((((B, A), "a"),), ((1, ("c", "lam"), ((1, ("h", 0), (b(1), b(0))),)),
                                         (2, ("h", 0), (b(0), b(1)))))
        self.check(told, value, [(("copy", 0, 0), ("meet", 0))])

    def test_copy_of_a_binder(self):
        value = problem((AA,), ((A,), A, h(0, b(0)), b(0)))
        self.check(filled((), ((1, ("b", 0), ()),)), value, [(("copy", 0, 0),)])
        three = ((A, A, A), "a")
        for i in range(3):
            value = problem((three,), ((A, A, A), A, b(i), h(0, b(1), b(2), b(0))))
            told = (3, ("b", {1: 2, 2: 1, 0: 0}[i]), ())
            self.check(filled((), (told,)), value, [(("copy", 0, 1),)])
        # A binder of a function type, which is a part in its long form.
        eta = (1, ("b", 1), (b(0),))
        value = problem((((AA, A), "a"),), ((A, AA), A, h(0, eta, b(1)), b(0, b(0, b(1)))))
        self.check(filled((), ((2, ("b", 1), (b(1, b(0)),)),)), value, [(("copy", 0, 0),) * 3])
        # Its parts are functions themselves.
        eta = (1, ("b", 1), ((1, ("b", 1), (b(0),)),))
        value = problem((((FA,), "a"),), ((FA,), A, h(0, eta), b(0, (1, ("c", "s"), (b(0),)))))
        self.check(filled((), ((1, ("b", 0), ((1, ("c", "s"), (b(0),)),)),)), value, [(("copy", 0, 0),) * 3])

    def test_meet_of_one_hole(self):
        three = ((A, A, A), "a")
        prefix = (A,) * 4
        for others, kept in (
            ((0, 1, 3), (0, 1)), ((0, 2, 1), (0,)), ((1, 0, 2), (2,)), ((3, 1, 2), (1, 2)), ((1, 2, 0), ()),
            ((3, 2, 1), ()),
        ):
            left = h(0, b(0), b(1), b(2))
            value = problem((three,), (prefix, A, left, h(0, *[b(i) for i in others])))
            told = (3, ("h", 0), tuple(b(2 - j) for j in kept))
            self.check(filled((((A,) * len(kept), "a"),), (told,)), value, [(("meet", 0),)])

    def test_meet_of_two_holes(self):
        # The new hole has the order of the left side; what is told is tidy at its first place.
        first, second = ((A, B, AA), "a"), ((AA, A, A), "a")
        prefix = (AA, A, B, A)
        eta = (1, ("b", 4), (b(0),))
        value = problem((first, second), (prefix, A, h(0, b(0), b(1), eta), h(1, eta, b(2), b(0))))
        told = filled((((A, AA), "a"),),
                      ((3, ("h", 0), (b(2), (1, ("b", 1), (b(0),)))), (3, ("h", 0), (b(0), (1, ("b", 3), (b(0),))))))
        self.check(told, value, [(("meet", 0),)])
        value = problem((AA, AA), ((A, A), A, h(0, b(0)), h(1, b(1))))
        self.check(filled((A,), (bound(1, h(0)), bound(1, h(0)))), value, [(("meet", 0),)])
        value = problem((((A, A), "a"),) * 2, ((A, A), A, h(0, b(0), b(1)), h(1, b(0), b(1))))
        both = (2, ("h", 0), (b(1), b(0)))
        self.check(filled((((A, A), "a"),), (both, both)), value, [(("meet", 0),)])
        value = problem((((A, A), "a"),) * 2, ((A, A), A, h(0, b(0), b(1)), h(1, b(1), b(0))))
        self.check(filled((((A, A), "a"),), (both, (2, ("h", 0), (b(0), b(1))))), value, [(("meet", 0),)])

    def test_out(self):
        self.check(NONE, problem((A,), ((A,), A, h(0), b(0))), [(("out", 0, 0),)])
        self.check(NONE, problem((A,), ((A,), A, b(0), h(0))), [(("out", 0, 1),)])
        self.check(NONE, problem((AA,), ((A, A), A, h(0, b(0)), b(1))), [(("out", 0, 0),)])
        self.check(NONE, problem((AA,), ((A, A), A, h(0, b(0)), c("s", b(1)))), [(("copy", 0, 0), ("out", 0, 0))])
        self.check(NONE, problem((A,), ((A, AA), A, h(0), b(0, b(1)))), [(("out", 0, 0),)])
        self.check(NONE, problem((AA,), ((A,), A, h(0, b(0)), b(0)), ((A,), A, C, h(0, b(0)))),
                   [(("copy", 0, 0),), (("copy", 1, 1),)])

    def test_round(self):
        self.check(NONE, problem((A,), ((), A, h(0), c("s", h(0)))), [(("round", 0, 0),)])
        self.check(NONE, problem((A,), ((), A, c("s", h(0)), h(0))), [(("round", 0, 1),)])
        self.check(NONE, problem((AA,), ((A, A), A, h(0, b(0)), c("f", C, h(0, b(1))))), [(("round", 0, 0),)])
        self.check(NONE, problem((A,), ((AA,), A, h(0), b(0, h(0)))), [(("round", 0, 0),), (("out", 0, 0),)])
        value = problem((A, A), ((), A, h(0), c("s", h(1))), ((), A, h(1), c("s", h(0))))
        self.check(NONE, value, [(("copy", 0, 0), ("meet", 0), ("round", 0, 0)),
                                 (("copy", 1, 0), ("meet", 1), ("round", 0, 0))])

    def test_one_after_the_other(self):
        # An equation that was taken is taken to its end before the next one is begun.
        value = problem((A, A), ((), A, h(0), c("f", C, C)), ((), A, h(1), c("o")))
        told = filled((), (c("f", C, C), c("o")))
        good = [(("copy", 0, 0),) * 4, (("copy", 1, 0),) + (("copy", 0, 0),) * 3,
                (("copy", 0, 0), ("copy", 1, 0), ("copy", 0, 0), ("copy", 0, 0))]
        self.check(told, value, good)
        for steps in (
            (("copy", 0, 0), ("copy", 2, 0), ("copy", 0, 0), ("copy", 0, 0)),
            (("copy", 0, 0), ("copy", 0, 0), ("copy", 1, 0), ("copy", 0, 0)),
        ):
            self.assertIsNone(follow(value, steps))

    def test_what_comes_of_others_in_hand_stays_in_hand(self):
        # Behind the first step f0 = g x and f1 = s (g x) are in hand; g is filled while they are.
        value = problem((A, AA, A), ((), A, h(0), c("f", h(2), c("s", h(2)))), ((), A, h(2), c("s", C)))
        told = filled((AA,), (c("f", c("s", C), c("s", c("s", C))), (1, ("h", 0), (b(0),)), c("s", C)))
        self.assertEqual(solve(value), told)
        begin = (("copy", 0, 0), ("meet", 0), ("copy", 0, 0), ("meet", 0))
        self.assertEqual(follow(value, begin + (("copy", 0, 0),) * 2), told)
        self.assertIsNone(follow(value, begin[:1] + (("copy", 2, 0),)))
        self.assertIsNone(follow(value, begin[:2] + (("copy", 1, 0),)))
        self.assertIsNone(follow(value, begin[:3] + (("copy", 1, 0),)))

    def test_what_is_not_in_hand_stays_so(self):
        # The second equation is changed by the first step, but it is not in hand behind it.
        value = problem((A, A, A), ((), A, h(0), c("f", h(1), h(2))), ((), A, h(0), c("f", C, C)))
        told = filled((), (c("f", C, C), C, C))
        self.assertEqual(solve(value), told)
        self.assertEqual(follow(value, (("copy", 0, 0), ("meet", 0), ("meet", 0), ("copy", 0, 0), ("copy", 0, 0))),
                         told)
        self.assertEqual(follow(value, (("copy", 0, 0), ("meet", 0), ("meet", 0), ("copy", 1, 0), ("copy", 0, 0))),
                         told)
        for at in (2, 3):
            self.assertIsNone(follow(value, (("copy", 0, 0), ("copy", at, 0))))
            self.assertIsNone(follow(value, (("copy", 0, 0), ("meet", 0), ("copy", at - 1, 0))))

    def test_what_becomes_a_pattern_is_not_in_hand(self):
        # The second step makes the first equation one of patterns; it is not in hand, but the one behind it is.
        value = problem((A, AA, AA, AA), ((), A, h(0), h(1, h(2, C))), ((A, A), A, h(3, b(0)), c("f", h(1, b(1)), C)))
        told = filled((A, AA), (h(0), bound(1, h(0)), (1, ("h", 1), (b(0),)), bound(1, c("f", h(0), C))))
        self.check(told, value, [(("copy", 1, 0), ("meet", 1), ("copy", 1, 0), ("meet", 0)),
                                 (("copy", 1, 0), ("copy", 2, 0), ("meet", 1), ("meet", 0))])
        self.assertIsNone(follow(value, (("copy", 1, 0), ("meet", 1), ("meet", 0), ("copy", 0, 0))))
        self.assertIsNone(follow(value, (("meet", 0),)))

    def test_equations_that_wait(self):
        # The example of point 23.
        value = problem((A, AA), ((A,), A, h(0), c("f", b(0), h(1, C))))
        self.check(filled((A, AA), (h(0), (1, ("h", 1), (b(0),))), ((A,), A, h(0), c("f", b(0), h(1, C)))), value, [()])
        for step in (("copy", 0, 0), ("out", 0, 0), ("round", 0, 0), ("meet", 0)):
            self.assertIsNone(follow(value, (step,)))
        # It waits until others have made it one of patterns, or equal, or a clash.
        more = ((A,), A, h(1, b(0)), b(0))
        value = problem((AA, AA), ((A,), A, h(0, h(1, b(0))), c("s", b(0))), more)
        self.check(filled((), ((1, ("c", "s"), (b(0),)), (1, ("b", 0), ()))), value,
                   [(("copy", 1, 0), ("copy", 0, 0), ("copy", 0, 0))])
        self.check(NONE, problem((AA,), ((), A, h(0, C), c("s", C)), ((A,), A, h(0, b(0)), b(0))), [(("copy", 1, 0),)])
        self.check(filled((), ((1, ("b", 0), ()),)), problem((AA,), ((), A, h(0, C), C), ((A,), A, h(0, b(0)), b(0))),
                   [(("copy", 1, 0),)])

    def test_what_is_kept_is_tidy(self):
        three = ((A, B, A), "a")
        row_of_parts = (b(0), b(1), b(2))
        value = problem((A, three, AA), ((A, B, A), A, h(1, *row_of_parts), h(2, C)),
                        ((A,), A, h(2, b(0)), h(2, h(0))), ((), A, C, h(2, C)))
        told = solve(value)
        # The hole 1 is tidy already: its long form has falling numbers.
        self.assertEqual(told[1], (A, three, AA))
        self.assertEqual(told[3], value[2])
        self.assertEqual(follow(value, ()), told)
        # Met holes get new numbers, and their arguments the order of the first place.
        value = problem((A, ((B, A), "a"), ((A, B), "a")), ((A, B), A, h(2, b(1), b(0)), h(1, b(0), b(1))),
                        ((B,), A, h(2, h(0), b(0)), h(0)))
        told = filled((A, ((B, A), "a")), (h(0), (2, ("h", 1), (b(1), b(0))), (2, ("h", 1), (b(0), b(1)))),
                      ((B,), A, h(1, b(0), h(0)), h(0)))
        self.check(told, value, [(("meet", 0),)])


class WrongRows(unittest.TestCase):
    def test_cut_and_lengthened(self):
        value = problem((A, A), ((), A, h(0), c("f", C, C)), ((), A, h(1), c("o")))
        steps = row(value)
        self.assertEqual(len(steps), 4)
        for at in range(4):
            self.assertIsNone(follow(value, steps[:at]))
            self.assertIsNone(follow(value, steps[:at] + steps[at + 1:]))
        for step in (("copy", 0, 0), ("meet", 0), ("out", 0, 0), ("round", 0, 0)):
            self.assertIsNone(follow(value, steps + (step,)))

    def test_nothing_behind_an_end(self):
        for value, steps in (
            (problem((A, A), ((A,), A, h(0), b(0)), ((), A, h(1), C)), (("out", 0, 0),)),
            (problem((A, A), ((), A, h(0), c("s", h(0))), ((), A, h(1), C)), (("round", 0, 0),)),
            (problem((A, A), ((), A, C, c("o")), ((), A, h(1), C)), ()),
            (problem((A, A), ((), A, h(0), C), ((), A, h(0), c("o")), ((), A, h(1), C)), (("copy", 0, 0),)),
        ):
            self.assertEqual(follow(value, steps), NONE)
            for step in (("copy", 0, 0), ("copy", 1, 0), ("copy", 2, 0), ("out", 0, 0), ("round", 0, 0), ("meet", 0)):
                self.assertIsNone(follow(value, steps + (step,)))

    def test_steps_that_are_not_allowed(self):
        # A copy where the hole occurs, or of a binder that is no part; an out or round that is none.
        for value, wrong in (
            (problem((A,), ((), A, h(0), c("s", h(0)))), (("copy", 0, 0), ("out", 0, 0), ("meet", 0), ("round", 0, 1))),
            (problem((A,), ((A,), A, h(0), b(0))), (("copy", 0, 0), ("round", 0, 0), ("meet", 0), ("out", 0, 1))),
            (problem((A,), ((), A, h(0), C)), (("out", 0, 0), ("round", 0, 0), ("meet", 0), ("copy", 0, 1))),
            (problem((AA,), ((A,), A, h(0, b(0)), b(0))), (("out", 0, 0), ("round", 0, 0), ("meet", 0))),
            (problem((A, A), ((), A, h(0), h(1))),
             (("copy", 0, 0), ("copy", 0, 1), ("out", 0, 0), ("out", 0, 1), ("round", 0, 0), ("round", 0, 1))),
            (problem((AA,), ((A, A), A, h(0, b(0)), h(0, b(1)))), (("round", 0, 0), ("copy", 0, 0), ("out", 0, 0))),
            # No patterns on both sides: on the left, or on the right.
            (problem((AA,), ((), A, h(0, C), c("s", C))), (("copy", 0, 0), ("out", 0, 0), ("meet", 0))),
            (problem((A, AA), ((), A, h(0), c("s", h(1, C)))), (("copy", 0, 0), ("copy", 0, 1), ("meet", 0))),
            (problem((A, AA), ((), A, h(0), h(1, C))), (("meet", 0),)),
            (problem((AA,), ((), A, h(0, h(0, C)), c("s", C))), (("round", 0, 0), ("copy", 0, 0))),
            (problem((((A, A), "a"),), ((A,), A, h(0, b(0), b(0)), c("s", b(0)))), (("copy", 0, 0),)),
        ):
            for step in wrong:
                with self.subTest(value=value[2], step=step):
                    self.assertIsNone(follow(value, (step,)))

    def test_numbers_and_sides(self):
        value = problem((A, A), ((), A, h(0), C), ((), A, c("o"), h(1)))
        right = (("copy", 0, 0), ("copy", 0, 1))
        self.assertIsNotNone(follow(value, right))
        for step in (
            ("copy", 2, 0), ("copy", -1, 0), ("copy", -2, 0), ("copy", 0, 1), ("copy", 0, -1), ("copy", 0, 2),
            ("copy", False, 0), ("copy", 0, False), ("copy", "0", 0), ("copy", 0, None), ("copy", None, 0), ("copy", 0),
            ("copy", 0, 0, 0), ("Copy", 0, 0), ("meet", 0, 0), (0, "copy", 0), ("copy", (0,), 0), ("copy",), (),
            "copy", None, True, 0, ("meet",), ("out", 0), ("round", 0), (("copy", 0, 0),),
        ):
            with self.subTest(step=step):
                self.assertIsNone(follow(value, (step,) + right[1:]))
                self.assertIsNone(follow(value, (step,)))
        value = problem((A, A), ((), A, h(0), h(1)))
        self.assertIsNotNone(follow(value, (("meet", 0),)))
        for step in (("meet", False), ("meet", 1), ("meet", -1), ("meet", 0, 0), ("meet", None)):
            self.assertIsNone(follow(value, (step,)))
        value = problem((A, A), ((), A, h(0), C), ((), A, h(1), C))
        self.assertIsNone(follow(value, (("copy", True, 0), ("copy", 0, 0))))
        self.assertIsNone(follow(problem((A,), ((), A, C, h(0))), (("copy", 0, True),)))

    def test_what_is_no_row(self):
        value = problem((A,), ((), A, h(0), C))
        for steps in JUNK:
            if steps != ():
                self.assertIsNone(follow(value, steps))
                self.assertIsNone(follow(problem(()), steps))
                self.assertIsNone(follow(value, (("copy", 0, 0), steps)))


def any_problem(rng, waiting):
    """A problem, mostly with a solution; some of its equations are not of patterns if waiting is True."""
    maker = Maker(rng)
    for _ in range(rng.randrange(1, 4) if waiting else 0):
        maker.add(rng.choice(KINDS), 1)
    equations = []
    for _ in range(rng.randrange(1, 5)):
        prefix, kind = any_kinds(rng, 3), rng.choice(KINDS)
        blurred = maker.blurred(prefix, kind) if waiting and rng.randrange(2) else None
        if blurred is None:
            term = any_small(rng, (), prefix, kind, 20)
            sides = (maker.vague(prefix, kind, term), maker.vague(prefix, kind, term))
        else:
            sides = (blurred[0], maker.vague(prefix, kind, blurred[1]))
        equations.append((prefix, kind) + (sides if rng.randrange(2) else sides[::-1]))
    if rng.randrange(3) == 0:
        at = rng.randrange(len(equations))
        prefix, kind, left, _ = equations[at]
        equations[at] = (prefix, kind, left, any_term(rng, tuple(maker.holes), prefix, kind, rng.randrange(3)))
    return problem(tuple(maker.holes), *equations)


class AnyRows(unittest.TestCase):
    def check(self, seed, waiting, many):
        rng = random_numbers(seed)
        ends = {"none": 0, "filled": 0, "kept": 0}
        changed = {True: 0, False: 0}
        for _ in range(many):
            value = any_problem(rng, waiting)
            told = solve(value)
            self.assertTrue(is_plain_data(told) and is_plain_data(row(value)))
            self.assertEqual(follow_words(value, row(value)), told)
            ends["kept" if told[3:] and told[3] else told[0]] += 1
            found = any_row(rng, value)
            if found is None:
                continue
            self.assertEqual(found[1], told)
            self.assertEqual(follow(value, found[0]), told)
            for _ in range(3):
                other = self.other_row(rng, found[0])
                expected = self.by_words(value, other)
                self.assertEqual(follow(value, other), expected)
                changed[expected is None] += 1
        return ends, changed

    def by_words(self, value, steps):
        if type(steps) is not tuple or any(type(step) is not tuple for step in steps):
            return None
        # True and False are equal to integers, but are none.
        if any(type(part) is bool for step in steps for part in step):
            return None
        return follow_words(value, steps)

    def other_row(self, rng, steps):
        way = rng.randrange(6)
        if not steps or way == 0:
            return twisted(rng, steps)
        if way == 1:
            return alike(rng, steps)
        at = rng.randrange(len(steps))
        step = steps[at]
        if way == 2:
            return steps[:at] + steps[at + 1:]
        if way == 3:
            return steps[:at] + (step,) + steps[at:]
        if way == 4:
            return replaced(steps, (at, 1), max(0, step[1] + rng.choice((-1, 1))))
        return replaced(steps, (at,), (rng.choice(("copy", "out", "round")), step[1], rng.randrange(2)))

    def test_patterns(self):
        ends, changed = self.check(23, False, 150)
        self.assertGreater(min(ends["none"], ends["filled"]), 8)
        self.assertGreater(min(changed.values()), 20)

    def test_with_others(self):
        ends, changed = self.check(24, True, 150)
        self.assertGreater(min(ends.values()), 8)
        self.assertGreater(min(changed.values()), 20)


if __name__ == "__main__":
    unittest.main()
