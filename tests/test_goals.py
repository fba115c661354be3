"""Points 40 and 44: opening, filling and lifting goals and rules, with the limits behind point 47."""

import unittest

from lacuna.errors import LimitError
from lacuna.rules import fill_goal, lift_goal, lift_rule, open_goal, open_rule

from tests.formulas import (
    FORMULAS, NO_MATCH, TYPES, class_goal, class_rule, expected_fill_goal, expected_lift, expected_open_goal,
)
from tests.samples import (
    A, AA, B, C, D, any_term, b, bound, bush, c, chain, depth, h, is_plain_data, nodes, random_numbers,
)

TRUE = ("true",)
ETA = (1, ("b", 1), (b(0),))
STEP = (1, ("c", "s"), (b(0),))


def atom(p, *parts):
    return ("atom", p, parts)


def p(term):
    return atom("p", term)


# Each form of a goal around a place for a term, with the number of binders of the goal around it.
AROUND = (
    (0, lambda x: p(x)),
    (0, lambda x: atom("q", x, D)),
    (0, lambda x: ("and", p(x), TRUE)),
    (0, lambda x: ("and", TRUE, p(x))),
    (0, lambda x: ("or", p(x), p(C))),
    (0, lambda x: ("or", p(C), p(x))),
    (1, lambda x: ("some", A, p(x))),
    (1, lambda x: ("all", B, p(x))),
    (2, lambda x: ("some", AA, ("all", A, p(x)))),
    (0, lambda x: ("equal", A, x, C)),
    (0, lambda x: ("equal", A, C, x)),
    (0, lambda x: ("match", A, x, C)),
    (0, lambda x: ("match", A, C, x)),
    (0, lambda x: ("given", (((), "p", (C,), TRUE),), p(x))),
    (0, lambda x: ("given", (((), "p", (x,), TRUE),), TRUE)),
    (2, lambda x: ("given", (((A, B), "p", (x,), TRUE),), TRUE)),
    (2, lambda x: ("given", (((), "t", (), TRUE), ((A, B), "p", (C,), p(x))), TRUE)),
    (3, lambda x: ("all", A, ("given", (((A,), "p", (C,), ("some", B, p(x))),), TRUE))),
    (4, lambda x: ("given", (((A, A), "p", (C,), ("given", (((A, A), "p", (x,), TRUE),), TRUE)),), TRUE)),
)


class ByHand(unittest.TestCase):
    def test_opened_under_binders(self):
        for d, around in AROUND:
            # One name, which is the binder d at the place.
            for w, told in (
                (C, C), (b(0), b(d)), (b(3), b(d + 3)), (h(0, b(1)), h(0, b(d + 1))),
                (c("f", b(0), b(2)), c("f", b(d), b(d + 2))),
                (c("lam", (1, ("b", 1), ())), c("lam", (1, ("b", d + 1), ()))),
            ):
                with self.subTest(d=d, w=w):
                    self.assertEqual(open_goal(around(b(d)), (w,)), around(told))
                    self.assertEqual(open_goal(around(c("s", b(d))), (w,)), around(c("s", told)))

    def test_what_is_not_opened(self):
        for d, around in AROUND:
            with self.subTest(d=d):
                self.assertEqual(open_goal(around(C), (D,)), around(C))
                self.assertEqual(open_goal(around(h(1, C)), (D,)), around(h(1, C)))
                # Binders of the goal stay; those further outside become smaller by the number of names.
                for i in range(d):
                    self.assertEqual(open_goal(around(b(i)), (C, D)), around(b(i)))
                for i in (0, 1, 5):
                    self.assertEqual(open_goal(around(b(d + 1 + i)), (C,)), around(b(d + i)))
                    self.assertEqual(open_goal(around(b(d + 3 + i)), (C, D, C)), around(b(d + i)))
                    self.assertEqual(open_goal(around(b(d + i)), ()), around(b(d + i)))
                lam = c("lam", (1, ("c", "f"), (b(0), b(d + 2))))
                self.assertEqual(open_goal(around(lam), (C,)), around(c("lam", (1, ("c", "f"), (b(0), b(d + 1))))))

    def test_names_in_their_order(self):
        for d, around in AROUND:
            for j, w in enumerate((C, c("o"), b(0))):
                told = around(b(d)) if j == 2 else around(w)
                self.assertEqual(open_goal(around(b(d + 2 - j)), (C, c("o"), b(0))), told)

    def test_functions(self):
        for d, around in AROUND:
            self.assertEqual(open_goal(around(b(d, C)), (STEP,)), around(c("s", C)))
            self.assertEqual(open_goal(around(b(d, b(d, b(d + 1)))), (STEP,)), around(chain(2, b(d))))
            self.assertEqual(open_goal(around(b(d, C)), (bound(1, b(1)),)), around(b(d)))
            self.assertEqual(open_goal(around(b(d, C)), (ETA,)), around(b(d, C)))
            twice = (1, ("c", "f"), (b(0), c("s", b(3))))
            self.assertEqual(open_goal(around(b(d, C)), (twice,)), around(c("f", C, c("s", b(d + 2)))))

    def test_true(self):
        self.assertEqual(open_goal(TRUE, (C,)), TRUE)
        self.assertEqual(fill_goal((C,), TRUE), TRUE)
        self.assertEqual(lift_goal(TRUE, 3), TRUE)

    def test_rules(self):
        rule = ((A, AA), "p", (b(0, b(1)),), ("all", B, ("and", p(b(1, b(2))), p(b(3)))))
        self.assertEqual(open_rule(rule, (C, STEP)), (p(c("s", C)), ("all", B, ("and", p(c("s", C)), p(b(1))))))
        self.assertEqual(open_rule(rule, (b(0), ETA)), (p(b(0, b(0))), ("all", B, ("and", p(b(1, b(1))), p(b(1))))))
        self.assertEqual(open_rule(((), "t", (), TRUE), ()), (atom("t"), TRUE))
        self.assertEqual(open_rule(((), "q", (b(3), b(0)), p(b(1))), ()), (atom("q", b(3), b(0)), p(b(1))))

    def test_filled(self):
        for d, around in AROUND:
            # Values have no binders but their own: they are put in as they are.
            self.assertEqual(fill_goal((C,), around(h(0))), around(C))
            self.assertEqual(fill_goal((h(3),), around(h(0))), around(h(3)))
            self.assertEqual(fill_goal((C, STEP), around(h(1, b(d + 1)))), around(c("s", b(d + 1))))
            self.assertEqual(fill_goal((C, STEP), around(h(1, h(0)))), around(c("s", C)))
            self.assertEqual(fill_goal((C,), around(b(d))), around(b(d)))
            self.assertEqual(fill_goal((), around(b(d))), around(b(d)))

    def test_lifted(self):
        for d, around in AROUND:
            for k in (0, 1, 4):
                for i in range(d):
                    self.assertEqual(lift_goal(around(b(i)), k), around(b(i)))
                for i in (0, 2):
                    self.assertEqual(lift_goal(around(b(d + i)), k), around(b(d + i + k)))
                    self.assertEqual(lift_goal(around(h(0, b(d + i))), k), around(h(0, b(d + i + k))))
                lam = (1, ("c", "f"), (b(0), b(d + 1)))
                self.assertEqual(lift_goal(around(c("lam", lam)), k),
                                 around(c("lam", (1, ("c", "f"), (b(0), b(d + 1 + k))))))
                body = around(b(d + 1))
                rule = ((A,), "p", (c("f", b(0), b(1)),), body)
                told = ((A,), "p", (c("f", b(0), b(1 + k)),), around(b(d + 1 + k)))
                self.assertEqual(lift_rule(rule, k), told)
                self.assertEqual(lift_rule(((A,), "p", (b(0),), around(b(d))), k), ((A,), "p", (b(0),), around(b(d))))
        self.assertEqual(lift_rule(((), "p", (b(0),), TRUE), 2), ((), "p", (b(2),), TRUE))


class Any(unittest.TestCase):
    def test_any(self):
        rng = random_numbers(60)
        for _ in range(200):
            signature = rng.choice((FORMULAS, NO_MATCH))
            constants = tuple(row for row in signature if row[1][1] != "o")
            holes = tuple(rng.choice(TYPES) for _ in range(2))
            prefix = tuple(rng.choice(TYPES) for _ in range(rng.randrange(3)))
            names = tuple(rng.choice(TYPES) for _ in range(rng.randrange(3)))
            binders = tuple((kind, rng.randrange(2) == 0) for kind in prefix + names)
            goal = class_goal(rng, signature, binders, rng.randrange(4), holes)
            terms = tuple(any_term(rng, holes, prefix, kind, rng.randrange(3), constants) for kind in names)
            told = open_goal(goal, terms)
            self.assertEqual(told, expected_open_goal(signature, holes, prefix, goal, terms))
            self.assertTrue(is_plain_data(told))
            rule = class_rule(rng, signature, binders[:len(prefix)], 3, holes)
            terms = tuple(any_term(rng, holes, prefix, kind, rng.randrange(3), constants) for kind in rule[0])
            head = ("atom",) + rule[1:3]
            expected = tuple(expected_open_goal(signature, holes, prefix, part, terms) for part in (head, rule[3]))
            self.assertEqual(open_rule(rule, terms), expected)
            new = tuple(rng.choice(TYPES) for _ in range(2))
            values = tuple(any_term(rng, new, (), kind, rng.randrange(3), constants) for kind in holes)
            goal = class_goal(rng, signature, binders[:len(prefix)], rng.randrange(4), holes)
            self.assertEqual(fill_goal(values, goal), expected_fill_goal(signature, new, values, prefix, goal))
            more = names[:rng.randrange(3)]
            self.assertEqual(lift_goal(goal, len(more)), expected_lift(signature, holes, prefix, more, goal))
            self.assertEqual(lift_rule(rule, len(more)), expected_lift(signature, holes, prefix, more, rule, True))


class Limits(unittest.TestCase):
    def check(self, fits, ask):
        """Whether exactly what may be returned is returned; ask returns a goal around one large term."""
        if fits:
            ask()
        else:
            with self.assertRaises(LimitError):
                ask()

    def test_nodes(self):
        for d, around in AROUND:
            for more in (0, 1):
                fits = more == 0
                w = bush(1999 + more)
                self.check(fits, lambda: open_goal(around(c("s", b(d))), (w,)))
                self.check(fits, lambda: fill_goal((w,), around(c("s", h(0)))))
                half = bush(1000)
                self.check(fits, lambda: open_goal(around(c("f", b(d), bush(999 + more))), (half,)))
        rule = ((A,), "p", (c("s", b(0)),), TRUE)
        self.assertEqual(open_rule(rule, (bush(1999),))[0], p(c("s", bush(1999))))
        for body in (TRUE, p(C)):
            self.check(False, lambda: open_rule(((A,), "p", (c("s", b(0)),), body), (bush(2000),)))
        self.check(True, lambda: open_rule(((A,), "p", (C,), p(c("s", b(0)))), (bush(1999),)))
        self.check(False, lambda: open_rule(((A,), "p", (C,), p(c("s", b(0)))), (bush(2000),)))

    def test_depth(self):
        for d, around in AROUND:
            for more in (0, 1):
                fits = more == 0
                self.check(fits, lambda: open_goal(around(chain(19, b(d))), (chain(80 + more),)))
                self.check(fits, lambda: fill_goal((chain(80 + more),), around(chain(19, h(0)))))
        self.check(True, lambda: open_rule(((A,), "p", (chain(19, b(0)),), TRUE), (chain(80),)))
        self.check(False, lambda: open_rule(((A,), "p", (chain(19, b(0)),), TRUE), (chain(81),)))
        self.check(True, lambda: open_rule(((A,), "p", (C,), p(chain(19, b(0)))), (chain(80),)))
        self.check(False, lambda: open_rule(((A,), "p", (C,), p(chain(19, b(0)))), (chain(81),)))

    def test_each_term_for_itself(self):
        goal = ("and", p(b(0)), ("and", atom("q", b(0), D), ("equal", A, b(0), b(0))))
        w = bush(2000)
        self.assertEqual(open_goal(goal, (w,)), ("and", p(w), ("and", atom("q", w, D), ("equal", A, w, w))))
        goal = ("and", p(h(0)), ("and", atom("q", h(0), D), ("match", A, h(0), h(0))))
        self.assertEqual(fill_goal((w,), goal), ("and", p(w), ("and", atom("q", w, D), ("match", A, w, w))))
        self.assertEqual(max(depth(term) for term in (chain(99),)), 100)
        self.assertEqual(open_goal(p(b(0)), (chain(99),)), p(chain(99)))

    def test_what_is_not_returned_does_not_count(self):
        # The terms are patterns, or what is put in is of a sort, or a long form: no term on the way is too large.
        self.assertEqual(fill_goal((bound(1, C),), p(h(0, b(0)))), p(C))
        self.assertEqual(fill_goal((bound(1, C), bush(2500)), ("all", A, p(h(0, b(0))))), ("all", A, p(C)))
        self.assertEqual(open_goal(p(C), (bush(2500),)), p(C))
        self.assertEqual(open_goal(p(b(0)), (bush(2500), C)), p(C))
        large = c("f", bush(900), bush(1097))
        self.assertEqual(nodes(large), 1998)
        self.assertEqual(open_goal(p(b(0, large)), (ETA,)), p(b(0, large)))
        self.assertEqual(open_goal(p(b(0, large)), ((1, ("h", 0), (b(0),)),)), p(h(0, large)))
        self.assertEqual(open_goal(p(c("s", b(0, large))), ((1, ("h", 0), (b(0),)),)), p(c("s", h(0, large))))
        # Lifting knows no limits.
        self.assertEqual(lift_goal(p(bush(3000)), 2), p(bush(3000)))
        self.assertEqual(lift_rule(((), "p", (chain(200, b(0)),), TRUE), 2), ((), "p", (chain(200, b(2)),), TRUE))


if __name__ == "__main__":
    unittest.main()
