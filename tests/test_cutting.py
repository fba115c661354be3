"""Points 70 to 75, and the limits ahead of lacuna/cutting.py."""

import unittest

from lacuna.cutting import clauses, cut, goal_of, identity, is_plain, rules_of
from lacuna.derivations import is_derivation, renumbered
from lacuna.errors import LimitError
from lacuna.rules import check_program

from tests.cuts import (
    SIGNATURE, Cut, any_plain, are_alike, behind, clauses_words, derivations, moved, of_class, within,
)
from tests.programs import SMALL, TRUE, atom, both, equal, every, fact, given, matched, rule
from tests.samples import A, AA, C, b, bush, c, chain, depth, is_plain_data, nodes, random_numbers

D = c("d")
P = atom("p")
T = atom("t")
S = (SIGNATURE, ())


def q(term):
    return atom("q", term)


class Plain(unittest.TestCase):
    def test_each_form(self):
        for goal, told in (
            (TRUE, True), (P, True), (both(P, TRUE), True), (("all", A, P), True), (given([fact("p")], P), True),
            (("or", P, P), False), (("some", A, P), False), (equal(A, C, C), False), (matched(A, C, C), False),
        ):
            rows = (
                goal, both(goal, P), both(P, goal), ("all", AA, goal), given([fact("p"), fact("t")], goal),
                given([fact("p"), rule((A,), "p", (), goal)], P),
                given([rule((), "p", (), given([rule((), "t", (), both(P, goal))], P))], TRUE),
                ("all", A, both(both(P, ("all", A, goal)), TRUE)),
            )
            for value in rows:
                with self.subTest(value=value):
                    self.assertIs(is_plain(value), told)
            self.assertIs(is_plain(("or", goal, P)), False)
            self.assertIs(is_plain(given([fact("p")], ("some", A, goal))), False)


class Clauses(unittest.TestCase):
    def test_by_hand(self):
        one = fact("q", b(0))
        for goal, told in (
            (TRUE, ()), (P, (((), (), "p", ()),)), (both(P, both(TRUE, T)), (((), (), "p", ()), ((), (), "t", ()))),
            (both(both(P, T), P), (((), (), "p", ()), ((), (), "t", ()), ((), (), "p", ()))),
            (every((A, AA), q(b(1))), (((A, AA), (), "q", (b(1),)),)),
            (given([fact("p")], both(P, T)), (((), (fact("p"),), "p", ()), ((), (fact("p"),), "t", ()))),
            (given([fact("p")], TRUE), ()), (("all", A, TRUE), ()),
            (given([fact("p"), fact("t")], given([fact("q", C)], P)),
             (((), (fact("p"), fact("t"), fact("q", C)), "p", ()),)),
            # Rules are taken into the prefix of the names further inside.
            (("all", A, given([one], ("all", A, both(q(b(0)), q(b(1)))))),
             (((A, A), (fact("q", b(1)),), "q", (b(0),)), ((A, A), (fact("q", b(1)),), "q", (b(1),)))),
            (("all", A, given([rule((A,), "q", (b(0),), q(b(1)))], ("all", A, given([one], P)))),
             (((A, A), (rule((A,), "q", (b(0),), q(b(2))), one), "p", ()),)),
        ):
            with self.subTest(goal=goal):
                kept = repr(goal)
                self.assertEqual(clauses(goal), told)
                self.assertEqual(repr(goal), kept)
                self.assertTrue(is_plain_data(clauses(goal)))

    def test_any(self):
        rng = random_numbers(100)
        many = 0
        for _ in range(400):
            goal = any_plain(rng, rng.randrange(2, 7))
            self.assertIs(is_plain(goal), True)
            self.assertEqual(clauses(goal), tuple(clauses_words(goal)))
            many += len(clauses(goal)) > 2
        self.assertGreater(many, 30)


class RulesAndGoals(unittest.TestCase):
    def test_rules_of(self):
        for goal, told in (
            (TRUE, ()), (P, (fact("p"),)), (both(P, q(C)), (fact("p"), fact("q", C))),
            (("all", A, q(b(0))), (rule((A,), "q", (b(0),)),)),
            (given([fact("p")], T), (rule((), "t", (), P),)),
            (given([fact("p"), fact("q", C)], T), (rule((), "t", (), both(P, q(C))),)),
            (given([fact("p"), fact("q", C), fact("q", D)], T), (rule((), "t", (), both(P, q(C), q(D))),)),
            (given([rule((A,), "q", (b(0),), P)], both(P, T)),
             (rule((), "p", (), ("all", A, given([fact("p")], q(b(0))))),
              rule((), "t", (), ("all", A, given([fact("p")], q(b(0))))))),
            (("all", A, given([rule((A, A), "q", (b(1),), both(q(b(0)), q(b(2))))], P)),
             (rule((A,), "p", (), every((A, A), given([fact("q", b(0)), fact("q", b(2))], q(b(1))))),)),
        ):
            with self.subTest(goal=goal):
                self.assertEqual(rules_of(goal), told)
                self.assertTrue(is_plain_data(rules_of(goal)))

    def test_goal_of(self):
        for value, told in (
            (fact("p"), P), (fact("q", C), q(C)), (rule((A,), "q", (b(0),)), ("all", A, q(b(0)))),
            (rule((A, AA), "q", (b(1),)), every((A, AA), q(b(1)))), (rule((), "p", (), T), given([fact("t")], P)),
            (rule((), "p", (), both(TRUE, TRUE)), P),
            (rule((A,), "q", (b(0),), both(P, q(b(0)))), ("all", A, given([fact("p"), fact("q", b(0))], q(b(0))))),
            (rule((A,), "q", (b(0),), given([fact("p")], ("all", A, q(b(1))))),
             ("all", A, given([rule((A,), "q", (b(1),), P)], q(b(0))))),
        ):
            with self.subTest(value=value):
                kept = repr(value)
                self.assertEqual(goal_of(value), told)
                self.assertEqual(repr(value), kept)

    def test_the_rules_of_a_rules_goal(self):
        rng = random_numbers(101)
        seen = 0
        for _ in range(400):
            for value in rules_of(any_plain(rng, rng.randrange(1, 6))):
                for body in (value[3], both(TRUE, value[3]), both(value[3], TRUE)):
                    told = value[:3] + (body,)
                    again = rules_of(goal_of(told))
                    self.assertEqual(len(again), 1)
                    self.assertTrue(are_alike(again[0], told))
                    self.assertEqual(rules_of(goal_of(again[0])), again)
                seen += value[3] != TRUE
        self.assertGreater(seen, 100)


class Cuts(unittest.TestCase):
    def check(self, rules, middle, goal, first, second, told):
        program = (SIGNATURE, tuple(rules))
        rest = rules_of(middle)
        self.assertIsNone(check_program(program))
        self.assertIs(is_derivation(program, ((), middle), first), True)
        self.assertIs(is_derivation(program, ((), behind(rest, goal)), second), True)
        kept = repr((program, middle, goal, first, second))
        self.assertEqual(cut(program, middle, goal, first, second), told)
        self.assertEqual(repr((program, middle, goal, first, second)), kept)
        self.assertIs(is_derivation(program, ((), goal), told), True)

    def test_one_atom(self):
        first = (("use", 0, ()), TRUE)
        self.check([fact("p")], P, P, first, (("given",), ("use", 1, ()), TRUE), first)
        self.check([fact("p")], P, both(P, P), first, (("given",), ("and",), ("use", 1, ()), TRUE, ("use", 0, ()),
                                                       TRUE),
                   (("and",),) + first + first)
        # Cuts that double.
        longer = (("use", 1, ()), ("and",), ("use", 0, ()), TRUE, TRUE)
        rules = [fact("p"), rule((), "t", (), both(P, TRUE))]
        second = (("given",), ("and",), ("use", 2, ()), TRUE, ("and",), ("use", 2, ()), TRUE, ("use", 2, ()), TRUE)
        self.check(rules, T, both(T, T, T), longer, second, (("and",),) + longer + (("and",),) + longer + longer)

    def test_no_rules(self):
        second = (("and",), TRUE, ("use", 0, ()), TRUE)
        self.check([fact("p")], TRUE, both(TRUE, P), (TRUE,), second, second)
        self.check([fact("p")], ("all", A, both(TRUE, TRUE)), both(TRUE, P), (("all",), ("and",), TRUE, TRUE), second,
                   second)

    def test_the_part_for_each_clause(self):
        rules = [fact("p"), fact("t"), rule((A,), "q", (b(0),))]
        middle = both(both(P, TRUE), both(q(C), q(D)))
        first = (("and",), ("and",), ("use", 0, ()), TRUE, TRUE, ("and",), ("use", 2, (C,)), TRUE, ("use", 2, (D,)),
                 TRUE)
        goal = both(q(D), P, q(C))
        second = (("given",), ("and",), ("use", 5, ()), TRUE, ("and",), ("use", 3, ()), TRUE, ("use", 4, ()), TRUE)
        self.check(rules, middle, goal, first, second,
                   (("and",), ("use", 2, (D,)), TRUE, ("and",), ("use", 0, ()), TRUE, ("use", 2, (C,)), TRUE))

    def test_names(self):
        # Terms are put in for the clause's names, below the names of the place.
        rules = [rule((A, A), "q", (b(0),))]
        middle = ("all", A, q(c("s", b(0))))
        first = (("all",), ("use", 0, (c("lam", (1, ("b", 1), ())), c("s", b(0)))), TRUE)
        second = (("given",), ("all",), ("use", 1, (c("s", b(0)),)), TRUE)
        self.check(rules, middle, ("all", A, q(c("s", c("s", b(0))))), first, second,
                   (("all",), ("use", 0, (c("lam", (1, ("c", "s"), (b(1),))), c("s", c("s", b(0))))), TRUE))
        middle = every((A, A), both(TRUE, q(b(1))))
        first = (("all",), ("all",), ("and",), TRUE, ("use", 0, (b(0), b(1))), TRUE)
        second = (("given",), ("all",), ("use", 1, (c("s", b(0)), D)), TRUE)
        self.check(rules, middle, ("all", A, q(c("s", b(0)))), first, second,
                   (("all",), ("use", 0, (D, c("s", b(0)))), TRUE))
        # Also below the names that stand in the part itself.
        rules = [rule((A,), "t", (), ("all", A, q(b(1)))), rule((A, A), "q", (b(0),))]
        middle = ("all", A, T)
        first = (("all",), ("use", 0, (b(0),)), ("all",), ("use", 1, (b(0), b(1))), TRUE)
        second = (("given",), ("all",), ("use", 2, (b(0),)), TRUE)
        self.check(rules, middle, ("all", A, T), first, second,
                   (("all",), ("use", 0, (b(0),)), ("all",), ("use", 1, (b(0), b(1))), TRUE))

    def test_functions(self):
        rules = [rule((A, AA), "q", (b(1),)), rule((AA,), "r", ((1, ("b", 1), (b(0),)),))]
        middle = ("all", AA, atom("r", (1, ("b", 1), (b(0),))))
        first = (("all",), ("use", 1, ((1, ("b", 1), (b(0),)),)), TRUE)
        step = (1, ("c", "s"), (b(0),))
        second = (("given",), ("use", 2, (step,)), TRUE)
        self.check(rules, middle, atom("r", step), first, second, (("use", 1, (step,)), TRUE))

    def test_rules_of_a_clause(self):
        # The clause is t given p: its body is put in where the part uses p.
        middle = given([fact("p")], T)
        rules = [rule((), "t", (), both(P, P)), fact("p")]
        first = (("given",), ("use", 0, ()), ("and",), ("use", 2, ()), TRUE, ("use", 1, ()), TRUE)
        second = (("given",), ("use", 2, ()), ("use", 1, ()), TRUE)
        self.check(rules, middle, T, first, second,
                   (("use", 0, ()), ("and",), ("use", 1, ()), TRUE, ("use", 1, ()), TRUE))
        # A cut within: the body of one use has another one in it.
        middle = given([fact("p")], P)
        first = (("given",), ("use", 0, ()), ("and",), ("use", 2, ()), TRUE, TRUE)
        rules = [rule((), "p", (), both(P, TRUE)), fact("t")]
        self.assertEqual(rules_of(middle), (rule((), "p", (), P),))
        goal = given([fact("p")], P)
        second = (("given",), ("given",), ("use", 2, ()), ("use", 2, ()), ("use", 3, ()), TRUE)
        told = (("given",), ("use", 0, ()), ("and",), ("use", 0, ()), ("and",), ("use", 2, ()), TRUE, TRUE, TRUE)
        self.check(rules, middle, goal, first, second, told)

    def test_numbers_become_smaller(self):
        rules = [fact("p")]
        middle = both(P, P)
        first = (("and",), ("use", 0, ()), TRUE, ("use", 0, ()), TRUE)
        goal = given([fact("t"), rule((), "q", (C,), T)], both(q(C), given([fact("q", D)], both(q(D), P))))
        second = (("given",), ("given",), ("and",), ("use", 4, ()), ("use", 3, ()), TRUE, ("given",), ("and",),
                  ("use", 5, ()), TRUE, ("use", 2, ()), TRUE)
        self.check(rules, middle, goal, first, second,
                   (("given",), ("and",), ("use", 2, ()), ("use", 1, ()), TRUE, ("given",), ("and",), ("use", 3, ()),
                    TRUE,
                    ("use", 0, ()), TRUE))

    def test_rules_that_are_put_in_within_the_part(self):
        # The part puts in rules of its own, which come behind those of the place.
        rules = [rule((), "t", (), given([fact("p")], both(P, P)))]
        first = (("use", 0, ()), ("given",), ("and",), ("use", 1, ()), TRUE, ("use", 1, ()), TRUE)
        goal = given([fact("q", C), fact("q", D)], both(T, q(D)))
        second = (("given",), ("given",), ("and",), ("use", 1, ()), TRUE, ("use", 3, ()), TRUE)
        self.check(rules, T, goal, first, second,
                   (("given",), ("and",), ("use", 0, ()), ("given",), ("and",), ("use", 3, ()), TRUE, ("use", 3, ()),
                    TRUE, ("use", 2, ()), TRUE))

    def test_bodies_that_are_built_otherwise(self):
        # The rule of the clause has its goals joined by and alone; the rule in the goal has true in it.
        inner = rule((), "p", (), both(both(TRUE, T), both(q(C), TRUE)))
        middle = given([inner], P)
        rules = [fact("t"), fact("q", C), rule((), "p", (), T)]
        self.assertEqual(rules_of(middle)[0][3], given([fact("t"), fact("q", C)], P))
        first = (("given",), ("use", 3, ()), ("and",), ("and",), TRUE, ("use", 0, ()), TRUE, ("and",), ("use", 1, ()),
                 TRUE, TRUE)
        second = (("given",), ("use", 3, ()), ("given",), ("use", 2, ()), ("use", 4, ()), TRUE)
        self.check(rules, middle, P, first, second, (("use", 2, ()), ("use", 0, ()), TRUE))

    def test_any_goal(self):
        # The goal, and rules of the program, need not be plain-built.
        rules = [fact("p"), rule((), "t", (), ("some", A, ("or", equal(A, b(0), C), P)))]
        first = (("use", 1, ()), ("some", C), ("left",), ("equal",))
        goal = ("or", P, ("some", A, both(("all", A, T), equal(A, b(0), D))))
        second = (("given",), ("right",), ("some", D), ("and",), ("all",), ("use", 2, ()), TRUE, ("equal",))
        self.check(rules, T, goal, first, second,
                   (("right",), ("some", D), ("and",), ("all",)) + first + (("equal",),))
        second = (("given",), ("left",), ("use", 0, ()), TRUE)
        self.check(rules, T, goal, first, second, second[1:])
        # As many rules are put in as there are on the side that is taken.
        rules = [rule((), "t", (), given([fact("p")], P))]
        first = (("use", 0, ()), ("given",), ("use", 1, ()), TRUE)
        goal = ("or", given([fact("q", C)], both(T, q(C))), given([fact("q", C), fact("q", D)], both(T, q(C))))
        for side, many in (("left", 1), ("right", 2)):
            second = (("given",), (side,), ("given",), ("and",), ("use", 1, ()), TRUE, ("use", 2, ()), TRUE)
            told = first[:2] + (("use", 1 + many, ()), TRUE, ("use", 1, ()), TRUE)
            self.check(rules, T, goal, first, second, ((side,), ("given",), ("and",)) + told)
        rules = [rule((), "t", (), ("all", A, ("some", A, equal(A, b(0), b(1)))))]
        first = (("all",), ("use", 0, ()), ("all",), ("some", b(0)), ("equal",))
        second = (("given",), ("all",), ("use", 1, (b(0),)), TRUE)
        self.check(rules, ("all", A, T), ("all", A, T), first, second, first)

    def test_any(self):
        rng = random_numbers(102)
        uses = 0
        grown = 0
        for _ in range(250):
            case = Cut(rng)
            n, many = len(case.rules), len(case.rest)
            for first in case.firsts:
                for body in case.seconds:
                    self.assertIs(is_derivation(case.longer(), ((), case.goal), body), True)
                    try:
                        told = cut(case.program(), case.middle, case.goal, first, case.second(body))
                    except LimitError:
                        continue
                    self.assertTrue(is_plain_data(told))
                    self.assertIs(is_derivation(case.program(), ((), case.goal), told), True)
                    if not any(row[0] == "use" and n <= row[1] < n + many for row in body):
                        self.assertEqual(told, renumbered(body, n, -many))
                    else:
                        uses += 1
                        grown += len(told) > len(body)
        self.assertGreater(uses, 100)
        self.assertGreater(grown, 20)


class Identities(unittest.TestCase):
    def test_example(self):
        middle = given([rule((), "p", (), ("all", A, q(b(0))))], P)
        self.assertEqual(rules_of(middle), (rule((), "p", (), given([rule((A,), "q", (b(0),))], P)),))
        told = (("given",), ("given",), ("use", 0, ()), ("given",), ("use", 1, ()), ("all",), ("use", 2, (b(0),)), TRUE)
        self.assertEqual(identity(S, middle), told)
        self.assertIs(is_derivation(S, ((), given(rules_of(middle), middle)), told), True)
        # Behind two rules of the program.
        rules = (fact("t"), fact("t"))
        self.assertEqual(identity((SIGNATURE, rules), middle), renumbered(told, 0, 2))

    def test_by_hand(self):
        eta = (1, ("b", 2), (b(0),))
        for goal, told in (
            (TRUE, (TRUE,)), (both(TRUE, ("all", A, TRUE)), (("and",), TRUE, ("all",), TRUE)),
            (P, (("given",), ("use", 0, ()), TRUE)),
            (both(P, T), (("given",), ("and",), ("use", 0, ()), TRUE, ("use", 1, ()), TRUE)),
            (("all", A, both(q(b(0)), TRUE)), (("given",), ("all",), ("and",), ("use", 0, (b(0),)), TRUE, TRUE)),
            (every((AA, A), q(b(0))),
             (("given",), ("all",), ("all",), ("use", 0, (eta, b(0))), TRUE)),
            # A goal without clauses has no given row ahead, whatever stands in it.
            (given([fact("p")], TRUE), (("given",), TRUE)),
            (given([fact("p")], T), (("given",), ("given",), ("use", 0, ()), ("use", 1, ()), TRUE)),
            (given([fact("p"), fact("q", C)], T),
             (("given",), ("given",), ("use", 0, ()), ("and",), ("use", 1, ()), TRUE, ("use", 2, ()), TRUE)),
        ):
            with self.subTest(goal=goal):
                kept = repr(goal)
                self.assertEqual(identity(S, goal), told)
                self.assertEqual(repr(goal), kept)
                self.assertIs(is_derivation(S, ((), behind(rules_of(goal), goal)), told), True)

    def test_any(self):
        rng = random_numbers(103)
        seen = 0
        for _ in range(400):
            goal = any_plain(rng, rng.randrange(1, 6))
            rules = rules_of(goal)
            if not of_class((fact("p"),), behind(rules, goal)):
                continue
            told = identity((SIGNATURE, (fact("p"),)), goal)
            self.assertTrue(is_plain_data(told))
            self.assertIs(is_derivation((SIGNATURE, (fact("p"),)), ((), behind(rules, goal)), told), True)
            seen += within(goal) > 1
        self.assertGreater(seen, 40)


class Equations(unittest.TestCase):
    """Point 75."""

    def cut(self, *values):
        """What cut tells, or None if LimitError is raised."""
        try:
            return cut(*values)
        except LimitError:
            return None

    def test_into_the_identity(self):
        rng = random_numbers(104)
        for _ in range(100):
            case = Cut(rng)
            whole = identity(case.program(), case.middle)
            for first in case.firsts:
                told = self.cut(case.program(), case.middle, case.middle, first, whole)
                self.assertIn(told, (first, None))

    def test_of_the_identity(self):
        rng = random_numbers(105)
        for _ in range(100):
            case = Cut(rng)
            many = len(case.rest)
            first = identity(case.program(), case.middle)[1:] if many else identity(case.program(), case.middle)
            for body in case.seconds:
                again = renumbered(body, len(case.rules), many)
                told = self.cut(case.longer(), case.middle, case.goal, first, case.second(again))
                self.assertIn(told, (body, None))

    def test_one_behind_the_other(self):
        rng = random_numbers(106)
        seen = 0
        for _ in range(150):
            case = Cut(rng)
            last = any_plain(rng, rng.randrange(1, 5)) if rng.randrange(2) else case.goal
            rules = rules_of(case.goal)
            if not of_class(case.rules + rules, behind(rules, last), behind(rules, case.goal)):
                continue
            n, many, more = len(case.rules), len(case.rest), len(rules)
            thirds = derivations(rng, rules + case.rules, last, 2)
            head = (("given",),) if rules else ()
            for first in case.firsts:
                for body in case.seconds:
                    for third in thirds:
                        # First the numbers of the rules of the goal behind those of the program, then behind all.
                        third = moved(third, 0, more, more + n)
                        one = self.cut(case.program(), case.middle, case.goal, first, case.second(body))
                        further = renumbered(third, n, many)
                        other = self.cut(case.longer(), case.goal, last, body, head + further)
                        if one is None or other is None:
                            continue
                        left = self.cut(case.program(), case.goal, last, one, head + third)
                        right = self.cut(case.program(), case.middle, last, first, case.second(other))
                        if left is not None and right is not None:
                            self.assertEqual(left, right)
                            seen += 1
        self.assertGreater(seen, 150)


class Limits(unittest.TestCase):
    def fits(self, fits, ask, many):
        if fits:
            told = ask()
            self.assertEqual(len(told), many)
        else:
            with self.assertRaises(LimitError):
                ask()

    def test_rows_of_a_cut(self):
        # The derivation of t has 39 rows, and it is used a hundred times.
        body = TRUE
        for _ in range(18):
            body = both(TRUE, body)
        rules = (rule((), "t", (), ("all", A, body)),)
        first = (("use", 0, ()), ("all",)) + (("and",), TRUE) * 18 + (TRUE,)
        self.assertEqual(len(first), 39)
        for names, fits in ((1, True), (2, False)):
            goal = every((A,) * names, both(*[T] * 100))
            second = (("given",),) + (("all",),) * names + (("and",), ("use", 1, ()), TRUE) * 99 + (("use", 1, ()),
                                                                                                    TRUE)
            self.assertLessEqual(len(second), 400)
            self.fits(fits, lambda: cut((SIGNATURE, rules), T, goal, first, second), 4000)

    def big(self):
        return SMALL + (("five", ((A,) * 5, "a")), ("w", ((), "o")))

    def test_terms_of_a_cut(self):
        # The name stands ten times in the row's term, and a term of 199 nodes is put in for it.
        for more, fits in ((0, True), (1, False)):
            term = c("five", *[c("five", *[b(0)] * 5), c("five", *[b(0)] * 5)], *[chain(2), C, chain(2 + more)])
            self.assertEqual(nodes(term), 10 + 10 + more)
            program = (self.big(), (rule((A, A), "q", (b(1),)),))
            middle = ("all", A, atom("q", b(0)))
            first = (("all",), ("use", 0, (b(0), term)), TRUE)
            second = (("given",), ("use", 1, (bush(199),)), TRUE)
            self.assertIs(is_derivation(program, ((), middle), first), True)
            if fits:
                told = cut(program, middle, atom("q", bush(199)), first, second)
                self.assertEqual(nodes(told[0][2][1]), 2000)
            else:
                with self.assertRaises(LimitError):
                    cut(program, middle, atom("q", bush(199)), first, second)

    def test_deep_terms_of_a_cut(self):
        program = (self.big(), (rule((A, A), "q", (b(1),)),))
        middle = ("all", A, atom("q", b(0)))
        for deep, fits in ((82, True), (83, False)):
            first = (("all",), ("use", 0, (b(0), chain(18, b(0)))), TRUE)
            second = (("given",), ("use", 1, (chain(deep - 1),)), TRUE)
            goal = atom("q", chain(deep - 1))
            if fits:
                told = cut(program, middle, goal, first, second)
                self.assertEqual(depth(told[0][2][1]), 100)
            else:
                with self.assertRaises(LimitError):
                    cut(program, middle, goal, first, second)

    def test_what_is_left_out_does_not_count(self):
        # Where the types have no arguments and the clauses no rules, only what is returned counts.
        program = (self.big(), (fact("p", C), rule((A,), "q", (b(0),))))
        middle = ("all", A, atom("p", C))
        first = (("all",), ("use", 0, ()), TRUE)
        second = (("given",), ("use", 2, (bush(2000),)), TRUE)
        self.assertEqual(cut(program, middle, atom("p", C), first, second), (("use", 0, ()), TRUE))
        second = (("given",), ("use", 2, (chain(150),)), TRUE)
        self.assertEqual(cut(program, middle, atom("p", C), first, second), (("use", 0, ()), TRUE))

    def wide(self, more):
        """A goal whose identity has many rows; more goals true stand in it."""
        facts = [fact("p")] * 5
        third = [rule((), "p", (), given(facts, both(*[P] * 6)))]
        second = [rule((), "p", (), given(third, both(*[P] * 4)))]
        return both(*[TRUE] * more, given(second, both(*[P] * 6)))

    def test_rows_of_an_identity(self):
        least = len(identity(S, self.wide(0)))
        self.assertLess(least, 4000)
        self.assertGreater(least, 2000)
        for want, fits in ((4000, True), (4001, False)):
            goal = self.wide((want - least) // 2)
            if (want - least) % 2:
                goal = ("all", A, goal)
            self.fits(fits, lambda: identity(S, goal), 4000)

    def test_far_above(self):
        facts = [fact("p")] * 8
        third = [rule((), "p", (), given(facts, both(*[P] * 8)))]
        second = [rule((), "p", (), given(third, both(*[P] * 8)))]
        with self.assertRaises(LimitError):
            identity(S, given(second, both(*[P] * 8)))


if __name__ == "__main__":
    unittest.main()
