"""Points 76 to 78."""

import unittest

from lacuna.cutting import clauses, cut, identity, rules_of
from lacuna.derivations import is_derivation
from lacuna.errors import LimitError
from lacuna.proofterms import from_terms, proof_types, to_terms
from lacuna.terms import is_term

from tests.cuts import CONSTANTS, SIGNATURE, Cut, any_plain, any_rules, behind, derivations, of_class, opened_words
from tests.programs import SMALL, TRUE, atom, both, every, fact, given, rule
from tests.samples import A, AA, C, any_term, b, bound, bush, c, chain, depth, is_plain_data, nodes, random_numbers

D = c("d")
P = atom("p")
T = atom("t")
DP = ((), ".p")
DQ = ((), ".q")
DT = ((), ".t")


def q(term):
    return atom("q", term)


class Types(unittest.TestCase):
    def test_rules(self):
        for value, told in (
            (fact("p"), DP), (rule((A, AA), "q", (b(1),)), ((A, AA), ".q")), (rule((), "p", (), T), ((DT,), ".p")),
            (rule((A,), "q", (b(0),), both(P, both(TRUE, T))), ((A, DP, DT), ".q")),
            (rule((A,), "p", (), ("all", AA, given([fact("t")], q(b(1))))), ((A, ((AA, DT), ".q")), ".p")),
            (rule((), "p", (), given([rule((A,), "q", (b(0),), T)], both(P, T))),
             ((((((A, DT), ".q"),), ".p"), ((((A, DT), ".q"),), ".t")), ".p")),
        ):
            with self.subTest(value=value):
                kept = repr(value)
                self.assertEqual(proof_types((SIGNATURE, (value,)), TRUE), ((told,), ()))
                self.assertEqual(repr(value), kept)

    def test_goals(self):
        for goal, told in (
            (TRUE, ()), (P, (DP,)), (both(P, q(C)), (DP, DQ)), (every((A, AA), P), (((A, AA), ".p"),)),
            (given([fact("t"), rule((), "p", (), T)], P), (((DT, ((DT,), ".p")), ".p"),)),
            # Types go ahead of rules, also where the names are further inside.
            (("all", A, given([fact("t")], ("all", AA, q(b(1))))), (((A, AA, DT), ".q"),)),
            (given([fact("t")], ("all", A, both(P, q(b(0))))), (((A, DT), ".p"), ((A, DT), ".q"))),
        ):
            with self.subTest(goal=goal):
                self.assertEqual(proof_types((SIGNATURE, (fact("t"),)), goal), ((DT,), told))
                self.assertTrue(is_plain_data(proof_types((SIGNATURE, ()), goal)))


class Terms(unittest.TestCase):
    def check(self, rules, goal, rows, terms):
        """The rows are written as the terms, and these are read back."""
        program = (SIGNATURE, tuple(rules))
        self.assertIs(is_derivation(program, ((), goal), rows), True)
        kept = repr((program, goal, rows, terms))
        told = to_terms(program, goal, rows)
        self.assertTrue(is_plain_data(told))
        self.assertEqual(told, terms)
        prefix, kinds = proof_types(program, goal)
        for kind, term in zip(kinds, told):
            self.assertTrue(is_term(SIGNATURE, (), prefix, kind, term))
        self.assertEqual(from_terms(program, goal, terms), rows)
        self.assertEqual(repr((program, goal, rows, terms)), kept)

    def test_by_hand(self):
        rules = [fact("p"), rule((A,), "q", (b(0),), P), fact("t")]
        self.check(rules, TRUE, (TRUE,), ())
        self.check(rules, P, (("use", 0, ()), TRUE), (b(2),))
        self.check(rules, T, (("use", 2, ()), TRUE), (b(0),))
        self.check(rules, q(C), (("use", 1, (C,)), ("use", 0, ()), TRUE), (b(1, C, b(2)),))
        self.check(rules, both(both(T, TRUE), P), (("and",), ("and",), ("use", 2, ()), TRUE, TRUE, ("use", 0, ()),
                                                   TRUE),
                   (b(0), b(2)))
        self.check(rules, ("all", A, q(c("s", b(0)))), (("all",), ("use", 1, (c("s", b(0)),)), ("use", 0, ()), TRUE),
                   (bound(1, b(2, c("s", b(0)), b(3))),))
        self.check(rules, given([fact("p")], P), (("given",), ("use", 3, ()), TRUE), (bound(1, b(0)),))
        self.check(rules, given([fact("p")], P), (("given",), ("use", 0, ()), TRUE), (bound(1, b(3)),))

    def test_types_ahead_of_rules(self):
        # The name x, a rule, and the name y: in the term x and y come first, and then the rule.
        rules = [rule((A, A), "q", (b(0),), q(b(1)))]
        goal = ("all", A, given([fact("q", b(0))], ("all", A, q(b(0)))))
        rows = (("all",), ("given",), ("all",), ("use", 0, (b(1), b(0))), ("use", 1, ()), TRUE)
        self.check(rules, goal, rows, (bound(3, b(3, b(2), b(1), b(0))),))
        # Own binders of terms of the program's constants stand in between.
        rules = [rule((AA,), "r", ((1, ("b", 1), (b(0),)),))]
        goal = given([fact("p")], ("all", A, atom("r", (1, ("c", "s"), (b(1),)))))
        rows = (("given",), ("all",), ("use", 0, ((1, ("c", "s"), (b(1),)),)), TRUE)
        self.check(rules, goal, rows, (bound(2, b(2, (1, ("c", "s"), (b(2),)))),))

    def test_clauses_of_bodies(self):
        rules = [rule((), "t", (), both(("all", A, q(b(0))), given([fact("p")], P)))]
        goal = given([rule((A,), "q", (b(0),))], T)
        rows = (("given",), ("use", 0, ()), ("and",), ("all",), ("use", 1, (b(0),)), TRUE, ("given",), ("use", 2, ()),
                TRUE)
        self.check(rules, goal, rows, (bound(1, b(1, bound(1, b(1, b(0))), bound(1, b(0)))),))

    def test_true_is_written_nowhere(self):
        rules = [rule((), "p", (), both(TRUE, both(T, TRUE))), fact("t"), rule((), "q", (C,), ("all", A, TRUE))]
        rows = (("use", 0, ()), ("and",), TRUE, ("and",), ("use", 1, ()), TRUE, TRUE)
        self.check(rules, P, rows, (b(2, b(1)),))
        self.check(rules, q(C), (("use", 2, ()), ("all",), TRUE), (b(0),))

    def test_no_derivations(self):
        rules = (rule((A,), "q", (b(0),), P), fact("p"), fact("q", D), rule((A,), "p", (), q(b(0))))
        program = (SIGNATURE, rules)
        for goal, terms, fits in (
            (q(C), (b(3, C, b(2)),), True), (q(C), (b(3, D, b(2)),), False), (q(C), (b(1),), False),
            (q(D), (b(1),), True),
            (P, (b(0, D, b(1)),), True), (P, (b(0, C, b(1)),), False), (P, (b(0, C, b(3, C, b(2))),), True),
            (P, (b(0, C, b(3, C, b(0, C, b(1)))),), False), (P, (b(0, C, b(3, C, b(0, D, b(1)))),), True),
            (both(P, q(C)), (b(2), b(1)), False), (both(P, q(D)), (b(2), b(1)), True),
            (("all", A, q(b(0))), (bound(1, b(4, b(0), b(3))),), True),
            (("all", A, q(b(0))), (bound(1, b(4, C, b(3))),), False),
            (("all", A, q(b(0))), (bound(1, b(2)),), False),
            (given([fact("q", C)], q(C)), (bound(1, b(0)),), True),
            (given([fact("q", C)], q(D)), (bound(1, b(0)),), False),
        ):
            with self.subTest(goal=goal, terms=terms):
                prefix, kinds = proof_types(program, goal)
                for kind, term in zip(kinds, terms):
                    self.assertTrue(is_term(SIGNATURE, (), prefix, kind, term))
                told = from_terms(program, goal, terms)
                if fits:
                    self.assertIs(is_derivation(program, ((), goal), told), True)
                    self.assertEqual(to_terms(program, goal, told), terms)
                else:
                    self.assertIsNone(told)

    def test_any_derivation(self):
        rng = random_numbers(110)
        seen = 0
        for _ in range(300):
            rules = any_rules(rng)
            goal = any_plain(rng, rng.randrange(1, 6))
            if not of_class(rules, goal):
                continue
            for rows in derivations(rng, rules, goal, 3):
                program = (SIGNATURE, rules)
                terms = to_terms(program, goal, rows)
                prefix, kinds = proof_types(program, goal)
                self.assertEqual(len(terms), len(clauses(goal)))
                for kind, term in zip(kinds, terms):
                    self.assertTrue(is_term(SIGNATURE, (), prefix, kind, term))
                self.assertEqual(from_terms(program, goal, terms), rows)
                seen += 1
        self.assertGreater(seen, 200)

    def test_any_terms(self):
        # Terms of the types are those of a derivation exactly if what they would be written for is one.
        rng = random_numbers(111)
        right = wrong = 0
        for _ in range(1500):
            rules = any_rules(rng)
            goal = any_plain(rng, rng.randrange(1, 4))
            prefix, kinds = proof_types((SIGNATURE, rules), goal)
            try:
                terms = tuple(any_term(rng, (), prefix, kind, rng.randrange(3), CONSTANTS) for kind in kinds)
            except (IndexError, RecursionError):
                continue
            if sum(map(nodes, terms)) > 150:
                continue
            told = from_terms((SIGNATURE, rules), goal, terms)
            if told is None:
                wrong += 1
            else:
                right += 1
                self.assertIs(is_derivation((SIGNATURE, rules), ((), goal), told), True)
                self.assertEqual(to_terms((SIGNATURE, rules), goal, told), terms)
        self.assertGreater(right, 100)
        self.assertGreater(wrong, 100)

    def test_different_derivations(self):
        rng = random_numbers(112)
        for _ in range(100):
            rules = any_rules(rng)
            goal = any_plain(rng, rng.randrange(1, 5))
            if of_class(rules, goal):
                found = derivations(rng, rules, goal, 20)
                terms = [to_terms((SIGNATURE, rules), goal, rows) for rows in found]
                self.assertEqual(len(set(terms)), len(set(found)))


class Opening(unittest.TestCase):
    """Point 78."""

    def test_cutting_is_opening(self):
        rng = random_numbers(113)
        seen = 0
        for _ in range(150):
            case = Cut(rng)
            prefix, kinds = proof_types(case.program(), case.goal)
            longer, _ = proof_types(case.longer(), case.goal)
            self.assertEqual(longer[:len(prefix)], prefix)
            self.assertEqual(longer[len(prefix):], proof_types(case.program(), case.middle)[1])
            for first in case.firsts:
                terms = to_terms(case.program(), case.middle, first)
                for body in case.seconds:
                    try:
                        told = to_terms(case.program(), case.goal, cut(
                            case.program(), case.middle, case.goal, first, case.second(body)))
                    except LimitError:
                        continue
                    before = to_terms(case.longer(), case.goal, body)
                    expected = tuple(
                        opened_words(SIGNATURE, prefix, longer[len(prefix):], kind, term, terms)
                        for kind, term in zip(kinds, before))
                    self.assertEqual(told, expected)
                    seen += told != before
        self.assertGreater(seen, 100)

    def test_the_identity_is_the_long_forms(self):
        rng = random_numbers(114)
        for _ in range(100):
            goal = any_plain(rng, rng.randrange(1, 5))
            rules = rules_of(goal)
            if not rules or not of_class((), behind(rules, goal)):
                continue
            program = (SIGNATURE, rules)
            rows = identity((SIGNATURE, ()), goal)[1:]
            self.assertIs(is_derivation(program, ((), goal), rows), True)
            prefix, kinds = proof_types(program, goal)
            self.assertEqual(prefix, kinds)
            terms = to_terms(program, goal, rows)
            # Each clause is derived by its own rule with its own names and rules.
            for at, term in enumerate(terms):
                n = term[0]
                self.assertEqual(term[1], ("b", n + len(rules) - 1 - at))
                self.assertEqual(len(term[2]), n)


class Limits(unittest.TestCase):
    def check(self, fits, ask, measure, most):
        if fits:
            self.assertEqual(max(map(measure, ask())), most)
        else:
            with self.assertRaises(LimitError):
                ask()

    def big(self):
        return SMALL + (("five", ((A,) * 5, "a")),)

    def test_nodes(self):
        # The nodes of t and w, ten for rules with terms of 198 nodes, and one for a rule with the last term.
        use = ("use", 0, (bush(198),)), TRUE
        for last, fits in ((7, True), (8, False)):
            first = both(*[atom("q", bush(198))] * 7, atom("w"))
            second = both(*[atom("q", bush(198))] * 3, atom("q", bush(last)))
            value = (self.big() + (("w", ((), "o")),),
                     (rule((A,), "q", (b(0),)), rule((), "t", (), first), rule((), "w", (), second)))
            rows = (("use", 1, ()),) + ((("and",),) + use) * 7 + (("use", 2, ()),) + ((("and",),) + use) * 3
            rows += (("use", 0, (bush(last),)), TRUE)
            self.assertIs(is_derivation(value, ((), T), rows), True)
            self.check(fits, lambda: to_terms(value, T, rows), nodes, 2000)
        # Each term counts for itself: eight of them may have more together.
        rules = (rule((A,), "q", (b(0),)), rule((A, A), "t", (), both(*[atom("q", b(0))] * 8)))
        row = ("use", 1, (bush(10), bush(150)))
        rows = (row,) + (("and",), ("use", 0, (bush(150),)), TRUE) * 7 + (("use", 0, (bush(150),)), TRUE)
        told = to_terms((self.big(), rules), both(T, T), (("and",),) + rows * 2)
        self.assertEqual([nodes(term) for term in told], [1 + 160 + 8 * 151] * 2)

    def test_depth(self):
        program = (SIGNATURE, (rule((), "t", (), T), fact("t")))
        for deep, fits in ((100, True), (101, False)):
            rows = (("use", 0, ()),) * (deep - 1) + (("use", 1, ()), TRUE)
            self.assertIs(is_derivation(program, ((), T), rows), True)
            self.check(fits, lambda: to_terms(program, T, rows), depth, 100)
        # Deep terms count with the rows above them.
        program = (SMALL, (rule((), "t", (), T), rule((A,), "t", ())))
        for deep, fits in ((84, True), (85, False)):
            rows = (("use", 0, ()),) * (deep - 5) + (("use", 1, (chain(19),)), TRUE)
            self.check(fits, lambda: to_terms(program, T, rows), depth, 100)

    def tree(self, leaves):
        """So many goals true, joined by and."""
        if leaves == 1:
            return TRUE
        return both(self.tree(leaves // 2), self.tree(leaves - leaves // 2))

    def test_rows(self):
        # Each use has 40 rows with it: what is read back may be too long, though the terms are not.
        program = (SIGNATURE, (rule((), "t", (), both(T, self.tree(20))), fact("t")))
        for names, fits in ((1, True), (2, False)):
            goal = every((A,) * names, both(*[TRUE] * 10, T))
            term = b(names)
            for _ in range(97):
                term = b(names + 1, term)
            told = (bound(names, term),)
            prefix, kinds = proof_types(program, goal)
            self.assertTrue(is_term(SIGNATURE, (), prefix, kinds[0], told[0]))
            self.check(fits, lambda: [from_terms(program, goal, told)], len, 4000)
        # What is no derivation is none at any length.
        rules = (rule((), "t", (), both(T, self.tree(20))), fact("t"), rule((), "p", (), both(T, q(C))), fact("q", D))
        term = b(2)
        for _ in range(97):
            term = b(3, term)
        self.assertIsNone(from_terms((SIGNATURE, rules), both(self.tree(50), P), (b(1, term, b(0)),)))


if __name__ == "__main__":
    unittest.main()
