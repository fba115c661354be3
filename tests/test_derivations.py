"""Points 45 to 47: derivations, their heights, and what comes of filling, putting in and more rules."""

import unittest

from lacuna.derivations import filled, height, is_derivation, put, renumbered
from lacuna.errors import LimitError
from lacuna.rules import check_program, check_question, fill_goal, lift_goal, lift_rule, open_goal

from tests.formulas import (
    FORMULAS, JUNK, TYPES, Prover, alike, class_rule, derives, height_by_words, predicates, replaced, spots, twisted,
)
from tests.samples import (
    A, AA, AAA, B, C, D, any_term, b, bound, bush, c, chain, h, is_plain_data, nodes, random_numbers,
)

TRUE = ("true",)
T = ((), "t")
E = ((), "e")
IDENTITY = (1, ("b", 0), ())
STEP = (1, ("c", "s"), (b(0),))


def atom(p, *parts):
    return ("atom", p, parts)


def rule(types, p, parts, body=TRUE):
    return (types, p, parts, body)


def program(*rules):
    return (FORMULAS, rules)


def typing():
    """The program of point 47, for terms and their types."""
    signature = (("lam", ((((T,), "t"),), "t")), ("app", ((T, T), "t")), ("arr", ((E, E), "e")), ("of", ((T, E), "o")))
    arr = c("arr", b(1), b(0))
    of_lam = ((((T,), "t"), E, E), "of", (c("lam", (1, ("b", 3), (b(0),))), arr),
              ("all", T, ("given", (((), "of", (b(0), b(2)), TRUE),), atom("of", b(3, b(0)), b(1)))))
    of_app = ((T, T, E, E), "of", (c("app", b(3), b(2)), b(0)),
              ("and", atom("of", b(3), arr), atom("of", b(2), b(1))))
    return (signature, (of_lam, of_app))


def plus():
    signature = (("z", A), ("s", AA), ("plus", ((A, A, A), "o")))
    return (signature, (((A,), "plus", (c("z"), b(0), b(0)), TRUE),
                        ((A, A, A), "plus", (c("s", b(2)), b(1), c("s", b(0))), atom("plus", b(2), b(1), b(0)))))


class Cases(unittest.TestCase):
    def right(self, goal, rows, rules=(), holes=(), high=0):
        value = program(*rules)
        with self.subTest(goal=goal, rows=rows):
            self.assertIsNone(check_program(value))
            self.assertIsNone(check_question(value, (holes, goal)))
            self.assertIs(is_derivation(value, (holes, goal), rows), True)
            self.assertEqual(height(rows), high)
            for at in range(len(rows)):
                self.assertIs(is_derivation(value, (holes, goal), rows[:at]), False)
                self.assertIs(is_derivation(value, (holes, goal), rows[:at] + rows[at + 1:]), False)
            self.assertIs(is_derivation(value, (holes, goal), rows + (("true",),)), False)
            self.assertIs(is_derivation(value, (holes, goal), rows + rows), False)

    def wrong(self, goal, *all_rows, rules=(), holes=()):
        for rows in all_rows:
            with self.subTest(goal=goal, rows=rows):
                self.assertIs(is_derivation(program(*rules), (holes, goal), rows), False)


class EachForm(Cases):
    def test_true(self):
        self.right(TRUE, (("true",),))
        self.wrong(TRUE, (), ("true",), (("equal",),), (("all",),), ((),), (("true", 0),), (("use", 0, ()),))

    def test_and(self):
        self.right(("and", TRUE, TRUE), (("and",), ("true",), ("true",)))
        first = ("equal", A, C, C)
        self.right(("and", first, TRUE), (("and",), ("equal",), ("true",)))
        self.wrong(("and", first, TRUE), (("and",), ("true",), ("equal",)), (("equal",), ("true",)), (("and",),),
                   (("left",), ("equal",)), (("or",), ("equal",), ("true",)))
        deep = ("and", ("and", TRUE, first), ("and", first, TRUE))
        self.right(deep, (("and",), ("and",), ("true",), ("equal",), ("and",), ("equal",), ("true",)))
        self.wrong(deep, (("and",), ("and",), ("true",), ("equal",), ("and",), ("true",), ("equal",)))

    def test_or(self):
        goal = ("or", TRUE, ("equal", A, C, C))
        self.right(goal, (("left",), ("true",)))
        self.right(goal, (("right",), ("equal",)))
        self.wrong(goal, (("left",), ("equal",)), (("right",), ("true",)), (("or",), ("true",)),
                   (("left", 0), ("true",)),
                   (("true",),), (("and",), ("true",), ("equal",)), (("left",), ("true",), ("equal",)))
        self.wrong(("or", atom("t"), TRUE), (("left",), ("true",)))

    def test_equal_and_match(self):
        for tag in ("equal", "match"):
            for kind, term in ((A, C), (AA, IDENTITY), (B, c("g", D, C)), (AAA, (2, ("c", "f"), (b(0), b(1))))):
                self.right((tag, kind, term, term), ((tag,),))
            self.wrong((tag, A, C, c("s", C)), ((tag,),))
            self.wrong((tag, AA, IDENTITY, bound(1, C)), ((tag,),))
            self.wrong((tag, A, C, C), (("true",),), ((tag, C),), ((tag, 0),),
                       (("match" if tag == "equal" else "equal",),))
            self.right((tag, A, h(0), h(0)), ((tag,),), holes=(A, A))
            self.wrong((tag, A, h(0), h(1)), ((tag,),), holes=(A, A))
            self.wrong((tag, A, h(0), C), ((tag,),), holes=(A, A))
            self.right(("all", A, (tag, A, b(0), b(0))), (("all",), (tag,)))
            self.wrong(("all", A, ("all", A, (tag, A, b(0), b(1)))), (("all",), ("all",), (tag,)))

    def test_some(self):
        goal = ("some", A, ("equal", A, b(0), c("s", C)))
        self.right(goal, (("some", c("s", C)), ("equal",)))
        self.wrong(goal, (("some", C), ("equal",)), (("some", D), ("equal",)), (("some", IDENTITY), ("equal",)),
                   (("some", c("no")), ("equal",)), (("some", b(0)), ("equal",)), (("some", h(0)), ("equal",)),
                   (("some",), ("equal",)), (("all",), ("equal",)), (("some", c("s", C), ()), ("equal",)),
                   (("some", None), ("equal",)), (("some", True), ("equal",)), (("some", c("t")), ("equal",)))
        # The term stands in the prefix of the place, outside of the binder of some.
        goal = ("all", A, ("some", A, ("equal", A, b(0), b(1))))
        self.right(goal, (("all",), ("some", b(0)), ("equal",)))
        self.wrong(goal, (("all",), ("some", b(1)), ("equal",)), (("all",), ("some", C), ("equal",)))
        goal = ("some", A, ("all", A, ("equal", A, b(0), b(1))))
        self.wrong(goal, (("some", b(0)), ("all",), ("equal",)), (("some", C), ("all",), ("equal",)))
        # Functions are put in.
        goal = ("some", AA, ("all", A, ("equal", A, b(1, b(0)), c("s", b(0)))))
        self.right(goal, (("some", STEP), ("all",), ("equal",)))
        self.wrong(goal, (("some", IDENTITY), ("all",), ("equal",)), (("some", c("s", C)), ("all",), ("equal",)))
        goal = ("some", AA, ("some", A, ("match", A, b(1, b(1, b(0))), chain(3))))
        self.right(goal, (("some", STEP), ("some", c("s", C)), ("match",)))
        self.right(goal, (("some", bound(1, chain(3))), ("some", C), ("match",)))
        self.wrong(goal, (("some", STEP), ("some", C), ("match",)))
        # A hole counts as any term of its type.
        self.right(("some", A, ("equal", A, b(0), h(1))), (("some", h(1)), ("equal",)), holes=(A, A))
        self.wrong(("some", A, ("equal", A, b(0), h(1))), (("some", h(0)), ("equal",)), holes=(A, A))
        self.right(("some", AA, TRUE), (("some", (1, ("h", 0), (b(0),))), ("true",)), holes=(AA,))

    def test_all(self):
        self.right(("all", A, TRUE), (("all",), ("true",)))
        self.right(("all", A, ("all", B, ("equal", B, b(0), b(0)))), (("all",), ("all",), ("equal",)))
        self.wrong(("all", A, TRUE), (("true",),), (("some", C), ("true",)), (("all", A), ("true",)),
                   (("given",), ("true",)))
        # Rules are taken into the longer prefix, also those that have names.
        goal = ("all", A, ("given", (rule((), "p", (b(0),)),), ("all", A, atom("p", b(1)))))
        self.right(goal, (("all",), ("given",), ("all",), ("use", 0, ()), ("true",)), high=1)
        other = ("all", A, ("given", (rule((), "p", (b(0),)),), ("all", A, atom("p", b(0)))))
        self.wrong(other, (("all",), ("given",), ("all",), ("use", 0, ()), ("true",)))
        goal = ("all", A, ("given", (rule((B,), "q", (b(1), b(0)), atom("p", b(1))), rule((), "p", (b(0),))),
                           ("all", B, ("all", A, atom("q", b(2), b(1))))))
        rows = (("all",), ("given",), ("all",), ("all",), ("use", 0, (b(1),)), ("use", 1, ()), ("true",))
        self.right(goal, rows, high=2)
        self.wrong(goal, replaced(rows, (4, 2, 0), D))

    def test_given(self):
        fact = rule((), "p", (C,))
        self.right(("given", (fact,), TRUE), (("given",), ("true",)))
        self.right(("given", (fact,), atom("p", C)), (("given",), ("use", 0, ()), ("true",)), high=1)
        self.wrong(("given", (fact,), atom("p", C)), (("use", 0, ()), ("true",)),
                   (("given",), ("use", 1, ()), ("true",)))
        self.wrong(("and", ("given", (fact,), TRUE), atom("p", C)), (("and",), ("given",), ("true",), ("use", 0, ()),
                                                                     ("true",)))
        # The rules follow those that are there, in their order.
        rules = (rule((), "t", ()), rule((), "p", (c("s", C),)))
        goal = ("given", (rule((), "p", (chain(2),)), rule((), "p", (chain(3),))),
                ("given", (rule((), "p", (chain(4),)),), None))
        for k, parts in ((1, chain(1)), (2, chain(2)), (3, chain(3)), (4, chain(4))):
            told = replaced(goal, (2, 2), atom("p", parts))
            self.right(told, (("given",), ("given",), ("use", k, ()), ("true",)), rules, high=1)
            for other in {0, 1, 2, 3, 4, 5} - {k}:
                self.wrong(told, (("given",), ("given",), ("use", other, ()), ("true",)), rules=rules)

    def test_rules_given_in_a_body(self):
        # What a rule of a given has as its own binders stays apart from what is opened around it.
        inner = rule((A,), "p", (c("f", b(0), b(1)),), atom("p", b(0)))
        outer = rule((A,), "p", (c("s", b(0)),), ("given", (inner, rule((), "p", (b(0),))),
                                                  atom("p", c("f", b(0), b(0)))))
        self.right(atom("p", c("s", C)),
                   (("use", 0, (C,)), ("given",), ("use", 1, (C,)), ("use", 2, ()), ("true",)), (outer,), high=3)
        self.wrong(atom("p", c("s", C)), (("use", 0, (C,)), ("given",), ("use", 1, (C,)), ("use", 1, ()), ("true",)),
                   (("use", 0, (C,)), ("given",), ("use", 1, (chain(1),)), ("use", 2, ()), ("true",)), rules=(outer,))


class Atoms(Cases):
    def test_heads(self):
        rules = (rule((), "t", ()), rule((), "p", (C,)), rule((A,), "p", (c("s", b(0)),)),
                 rule((A, B), "q", (b(1), b(0))),
                 rule((AA,), "r", ((1, ("b", 1), (b(0),)), C)))
        for goal, row in (
            (atom("t"), ("use", 0, ())), (atom("p", C), ("use", 1, ())), (atom("p", chain(2)), ("use", 2, (chain(1),))),
            (atom("q", C, D), ("use", 3, (C, D))), (atom("r", STEP, C), ("use", 4, (STEP,))),
            (atom("r", bound(1, C), C), ("use", 4, (bound(1, C),))),
        ):
            self.right(goal, (row, ("true",)), rules, high=1)
            for k in range(6):
                if k != row[1]:
                    self.wrong(goal, (("use", k, row[2]), ("true",)), (("use", k, ()), ("true",)), rules=rules)
        self.wrong(atom("p", chain(2)), *[(("use", 2, terms), ("true",)) for terms in (
            (), (C,), (chain(2),), (chain(1), C), (D,), None, chain(1), (None,), (IDENTITY,), (h(0),), (b(0),),
            (c("no"),))],
                   rules=rules)
        self.wrong(atom("q", C, D), (("use", 3, (D, C)), ("true",)), (("use", 3, (C,)), ("true",)), rules=rules)
        self.wrong(atom("r", STEP, c("s", C)), (("use", 4, (STEP,)), ("true",)), rules=rules)
        self.wrong(atom("r", STEP, C), (("use", 4, (IDENTITY,)), ("true",)), rules=rules)

    def test_the_same_parts_with_another_predicate(self):
        self.wrong(atom("t"), (("use", 0, ()), ("true",)), rules=(rule((), "p", (C,)),))
        other = (FORMULAS + (("pp", ((A,), "o")),), (rule((), "pp", (C,)), rule((), "p", (C,))))
        self.assertIs(is_derivation(other, ((), atom("p", C)), (("use", 0, ()), ("true",))), False)
        self.assertIs(is_derivation(other, ((), atom("p", C)), (("use", 1, ()), ("true",))), True)

    def test_rows(self):
        rules = (rule((A,), "p", (b(0),)), rule((A,), "p", (b(0),)))
        self.right(atom("p", C), (("use", 0, (C,)), ("true",)), rules, high=1)
        self.right(atom("p", C), (("use", 1, (C,)), ("true",)), rules, high=1)
        self.wrong(atom("p", C), *[(row, ("true",)) for row in (
            ("use", True, (C,)), ("use", False, (C,)), ("use", -1, (C,)), ("use", -2, (C,)), ("use", 2, (C,)),
            ("use", "0", (C,)),
            ("use", None, (C,)), ("use", 0), ("use", (C,)), ("use", 0, (C,), ()), ("Use", 0, (C,)), (0, "use", (C,)),
            ("use", 0, C), ("use", 0, None), ("true",), ("all",), "use", None, 0, (), ("use",), ("use", (0,), (C,)),
            ("use", 0, ((False, ("c", "c"), ()),)))], rules=rules)

    def test_bodies(self):
        rules = (rule((A,), "p", (c("s", b(0)),), atom("p", b(0))), rule((), "p", (C,)))
        for many in range(5):
            rows = tuple(("use", 0, (chain(k),)) for k in reversed(range(many))) + (("use", 1, ()), ("true",))
            self.right(atom("p", chain(many)), rows, rules, high=many + 1)
        self.wrong(atom("p", chain(1)), (("use", 0, (C,)), ("true",)), (("use", 0, (C,)), ("use", 0, (C,)), ("true",)),
                   rules=rules)
        # A variable that does not occur in the head may be any term, with which the body has to be derived.
        rules = (rule((A,), "t", (), atom("p", b(0))), rule((), "p", (chain(1),)))
        self.right(atom("t"), (("use", 0, (chain(1),)), ("use", 1, ()), ("true",)), rules, high=2)
        self.wrong(atom("t"), (("use", 0, (C,)), ("use", 1, ()), ("true",)), rules=rules)

    def test_holes(self):
        rules = (rule((A,), "p", (c("s", b(0)),), TRUE),)
        self.right(atom("p", c("s", h(0))), (("use", 0, (h(0),)), ("true",)), rules, (A,), 1)
        self.wrong(atom("p", c("s", h(0))), (("use", 0, (C,)), ("true",)), rules=rules, holes=(A,))
        self.wrong(atom("p", h(0)), (("use", 0, (C,)), ("true",)), rules=rules, holes=(A,))
        goal = ("all", A, atom("p", c("s", h(0, b(0)))))
        self.right(goal, (("all",), ("use", 0, (h(0, b(0)),)), ("true",)), rules, (AA,), 1)
        self.wrong(goal, (("all",), ("use", 0, (h(0, C),)), ("true",)), rules=rules, holes=(AA,))

    def test_any_values(self):
        rules = (rule((), "p", (C,)),)
        for rows in JUNK:
            self.wrong(atom("p", C), rows, rules=rules)
            self.wrong(TRUE, rows)
            if rows != ("use", 0, ()):
                self.wrong(atom("p", C), (rows, ("true",)), rules=rules)
            if rows != ("true",):
                self.wrong(TRUE, (rows,))
                self.wrong(atom("p", C), (("use", 0, ()), rows), rules=rules)
        self.wrong(TRUE, [("true",)], "true", ("true",))


class Examples(unittest.TestCase):
    def test_point_56(self):
        # (1): plus A B (s z) with s z and z.
        one = c("s", c("z"))
        rows = (("use", 1, (c("z"), c("z"), c("z"))), ("use", 0, (c("z"),)), ("true",))
        goal = atom("plus", one, c("z"), one)
        self.assertIs(is_derivation(plus(), ((), goal), rows), True)
        self.assertEqual(height(rows), 2)
        self.assertIs(is_derivation(plus(), ((), atom("plus", c("z"), one, one)), (("use", 0, (one,)), ("true",))),
                      True)
        self.assertIs(is_derivation(plus(), ((), goal), (("use", 0, (one,)), ("true",))), False)
        # (5): lam (x. x) of the type arr H H, for any H.
        lam = c("lam", IDENTITY)
        rows = (("use", 0, (IDENTITY, h(0), h(0))), ("all",), ("given",), ("use", 2, ()), ("true",))
        for wrong, value in ((True, c("arr", h(0), h(0))), (False, c("arr", h(0), h(1))), (False, h(0))):
            question = ((E, E), atom("of", lam, value))
            self.assertIs(is_derivation(typing(), question, rows), wrong)
        self.assertEqual(height(rows), 2)

    def test_typing_of_an_application(self):
        # lam x. lam y. app x y: its derivation puts rules in under names.
        term = c("lam", (1, ("c", "lam"), ((1, ("c", "app"), (b(1), b(0))),)))
        first, second = h(0), h(1)
        arr = c("arr", first, second)
        inner = (1, ("c", "app"), (b(1), b(0)))
        rows = (("use", 0, ((1, ("c", "lam"), ((1, ("c", "app"), (b(1), b(0))),)), arr, arr)), ("all",), ("given",),
                ("use", 0, (inner, first, second)), ("all",), ("given",), ("use", 1, (b(1), b(0), first, second)),
                ("and",),
                ("use", 2, ()), ("true",), ("use", 3, ()), ("true",))
        question = ((E, E), atom("of", term, c("arr", arr, arr)))
        self.assertIs(is_derivation(typing(), question, rows), True)
        self.assertEqual(height(rows), 4)
        for path in spots(rows):
            for junk in JUNK[:12] + (h(1), b(1), 3, 2):
                other = replaced(rows, path, junk)
                self.assertIs(is_derivation(typing(), question, other), other == rows and repr(other) == repr(rows)
                              or derives(typing(), question, other))
        told = filled(rows, (c("arr", h(0), h(0)), h(0)))
        goal = fill_goal((c("arr", h(0), h(0)), h(0)), question[1])
        self.assertIs(is_derivation(typing(), ((E,), goal), told), True)
        self.assertIs(is_derivation(typing(), ((E, E), goal), rows), False)


class Heights(unittest.TestCase):
    def test_by_hand(self):
        use = ("use", 0, ())
        for rows, told in (
            ((TRUE,), 0), ((("equal",),), 0), ((("match",),), 0), ((("all",), TRUE), 0), ((use, TRUE), 1),
            ((use, ("equal",)), 1),
            ((use, use, TRUE), 2), ((use, ("all",), use, ("given",), use, TRUE), 3),
            ((("and",), use, TRUE, use, use, TRUE), 2), ((("and",), use, use, TRUE, use, TRUE), 2),
            ((("and",), use, TRUE, use, TRUE), 1), ((("left",), use, TRUE), 1),
            ((("right",), ("some", C), use, TRUE), 1),
            ((use, ("and",), ("and",), use, TRUE, TRUE, use, use, use, TRUE), 4),
            ((use, ("and",), ("and",), use, use, use, TRUE, TRUE, use, TRUE), 4),
        ):
            self.assertEqual(height(rows), told)
            self.assertEqual(height_by_words(rows), told)
        self.assertEqual(height((use,) * 399 + (TRUE,)), 399)
        self.assertEqual(height((("and",), use, TRUE) * 100 + (TRUE,)), 1)


class Changes(unittest.TestCase):
    def test_filled(self):
        rows = (("some", h(0)), ("use", 3, (h(1, h(0)), C)), ("all",), ("left",), ("use", 0, ()), ("true",))
        told = (("some", C), ("use", 3, (c("s", C), C)), ("all",), ("left",), ("use", 0, ()), ("true",))
        self.assertEqual(filled(rows, (C, STEP)), told)
        # Values have no names: they are put in as they are, under names, too.
        rows = (("all",), ("all",), ("some", h(1, b(1))), ("some", h(0)), ("equal",))
        self.assertEqual(filled(rows, (h(2), STEP)), (("all",), ("all",), ("some", c("s", b(1))), ("some", h(2)),
                                                      ("equal",)))
        for same in ((("true",),), (("and",), ("equal",), ("match",)), (("right",), ("given",), ("use", 7, (b(0),)),
                                                                        ("true",))):
            self.assertEqual(filled(same, (C,)), same)
            self.assertEqual(filled(same, ()), same)

    def test_put(self):
        rules = (rule((A, A), "p", (c("f", b(1), b(0)),)),)
        goal = ("all", A, ("all", A, ("some", A, atom("p", c("f", b(0), b(1))))))
        rows = (("all",), ("all",), ("some", c("f", b(1), b(0))), ("use", 0, (c("f", b(1), b(0)), b(0))), ("true",))
        value, question = program(*rules), ((A,), goal)
        self.assertIs(is_derivation(value, question, rows), True)
        for term in (C, h(0), c("s", h(0)), c("lam", IDENTITY)):
            told = put(value, question, rows, term)
            self.assertEqual(told, (("all",), ("some", c("f", term, b(0))), ("use", 0, (c("f", term, b(0)), b(0))),
                                    ("true",)))
            self.assertIs(is_derivation(value, ((A,), open_goal(goal[2], (term,))), told), True)
        goal = ("all", AA, ("some", A, ("equal", A, b(0), b(1, C))))
        rows = (("all",), ("some", b(0, C)), ("equal",))
        self.assertEqual(put(program(), ((), goal), rows, STEP), (("some", c("s", C)), ("equal",)))
        self.assertEqual(put(program(), ((), goal), rows, bound(1, C)), (("some", C), ("equal",)))
        self.assertEqual(put(program(), ((), ("all", A, TRUE)), (("all",), ("true",)), C), (("true",),))

    def test_put_counts_the_names_around_each_row(self):
        # The names of one side of an and are none of the other one.
        rows = (("all",), ("and",), ("all",), ("and",), ("some", b(1)), ("equal",), ("all",), ("some", b(2)),
                ("equal",),
                ("some", b(0)), ("equal",))
        told = (("and",), ("all",), ("and",), ("some", C), ("equal",), ("all",), ("some", C), ("equal",), ("some", C),
                ("equal",))
        inner = ("some", A, ("equal", A, b(0), C))
        goal = ("all", A, ("and", ("all", A, ("and", ("some", A, ("equal", A, b(0), b(2))),
                                              ("all", A, ("some", A, ("equal", A, b(0), b(3)))))),
                           ("some", A, ("equal", A, b(0), b(1)))))
        self.assertIs(is_derivation(program(), ((), goal), rows), True)
        self.assertEqual(put(program(), ((), goal), rows, C), told)
        self.assertIs(is_derivation(program(), ((), open_goal(goal[2], (C,))), told), True)
        self.assertEqual(open_goal(goal[2], (C,))[2], inner)
        # Other names keep their numbers, whichever they are.
        rows = (("all",), ("all",), ("all",), ("some", c("f", b(0), c("f", b(1), b(2)))), ("true",))
        goal = ("all", A, ("all", A, ("all", A, ("some", A, TRUE))))
        self.assertEqual(put(program(), ((), goal), rows, C),
                         (("all",), ("all",), ("some", c("f", b(0), c("f", b(1), C))), ("true",)))

    def test_renumbered(self):
        rows = (("use", 0, (C,)), ("and",), ("use", 1, ()), ("true",), ("given",), ("use", 2, (b(0),)), ("some", C),
                ("use", 5, ()),
                ("true",))
        for first, more, numbers in (
            (0, 0, (0, 1, 2, 5)), (0, 1, (1, 2, 3, 6)), (1, 3, (0, 4, 5, 8)), (2, 1, (0, 1, 3, 6)),
            (3, 2, (0, 1, 2, 7)),
            (5, 2, (0, 1, 2, 7)), (6, 9, (0, 1, 2, 5)),
        ):
            told = renumbered(rows, first, more)
            self.assertEqual(tuple(row[1] for row in told if row[0] == "use"), numbers)
            self.assertEqual([row if row[0] != "use" else row[::2] for row in told],
                             [row if row[0] != "use" else row[::2] for row in rows])
        self.assertEqual(renumbered((("true",),), 0, 3), (("true",),))

    def test_more_rules(self):
        rules = (rule((), "p", (C,)), rule((A,), "p", (c("s", b(0)),), ("given", (rule((), "t", ()),),
                                                                        atom("p", b(0)))))
        more = (rule((), "t", ()), rule((B,), "q", (C, b(0))))
        goal = atom("p", chain(1))
        rows = (("use", 1, (C,)), ("given",), ("use", 0, ()), ("true",))
        self.assertIs(is_derivation(program(*rules), ((), goal), rows), True)
        for first in range(3):
            value = program(*rules[:first], *more, *rules[first:])
            told = renumbered(rows, first, 2)
            self.assertIs(is_derivation(value, ((), goal), told), True)
            self.assertIs(is_derivation(value, ((), goal), rows), first == 2)


class Limits(unittest.TestCase):
    def test_filled_and_put(self):
        goal = ("all", A, TRUE)
        for wide in (lambda x: (("some", x), ("true",)), lambda x: (("use", 0, (C, x)), ("true",))):
            for size, fits in ((1999, True), (2000, False)):
                self.check(fits, lambda: filled(wide(c("s", h(0))), (bush(size),)), wide(c("s", bush(size))))
                self.check(fits, lambda: put(program(), ((), goal), (("all",),) + wide(c("s", b(0))), bush(size)),
                           wide(c("s", bush(size))))
            for deep, fits in ((80, True), (81, False)):
                self.check(fits, lambda: filled(wide(chain(19, h(0))), (chain(deep),)), wide(chain(19 + deep)))
                self.check(fits, lambda: put(program(), ((), goal), (("all",),) + wide(chain(19, b(0))), chain(deep)),
                           wide(chain(19 + deep)))
        # What is left out does not count where the terms are patterns, or what is put in is of a sort.
        self.assertEqual(filled((("some", h(0, b(0))), ("true",)), (bound(1, C), bush(3000))), (("some", C), ("true",)))
        self.assertEqual(put(program(), ((), goal), (("all",), ("some", C), ("true",)), bush(3000)),
                         (("some", C), ("true",)))
        many = (("and",), ("some", h(0)), ("true",)) * 50 + (("true",),)
        self.assertEqual(filled(many, (bush(2000),)), (("and",), ("some", bush(2000)), ("true",)) * 50 + (("true",),))

    def check(self, fits, ask, told):
        if fits:
            self.assertEqual(ask(), told)
        else:
            with self.assertRaises(LimitError):
                ask()

    def times(self, many, i, end):
        return end if many == 0 else b(i, self.times(many - 1, i, end))

    def test_large_terms_on_the_way(self):
        # Far above what may be returned elsewhere: 2 to the 17th nodes are no reason to raise anything.
        twice = (1, ("c", "f"), (b(0), b(0)))
        full = C
        for _ in range(8):
            full = c("f", full, full)
        large, other = full, c("s", full)
        for _ in range(8):
            large, other = c("f", large, large), c("f", c("f", large, large), other)
        goal = ("some", AA, ("some", A, ("some", A, ("match", A, self.times(8, 2, b(1)), b(0)))))
        rows = (("some", twice), ("some", full), ("some", large), ("match",))
        self.assertEqual(nodes(large), 2 ** 17 - 1)
        self.assertIs(is_derivation(program(), ((), goal), rows), True)
        self.assertIs(is_derivation(program(), ((), goal), replaced(rows, (2, 1), other)), False)
        self.assertIs(is_derivation(program(), ((), goal), replaced(rows, (0, 1), STEP)), False)

    def test_what_is_left_out(self):
        # The part that is left out would have more nodes than there may be.
        goal = ("some", AA, ("some", AA, ("match", A, b(1, self.times(19, 0, C)), C)))
        five = (1, ("c", "f"), (c("f", b(0), b(0)), c("f", b(0), b(0))))
        rows = (("some", bound(1, C)), ("some", five), ("match",))
        self.assertIs(is_derivation(program(), ((), goal), rows), True)

    def test_too_large_terms(self):
        # The side of the match has more than two million nodes: it is told that it is no derivation, or LimitError.
        twice = (1, ("c", "f"), (b(0), b(0)))
        goal = ("some", AA, ("some", A, ("some", A, ("match", A, self.times(20, 2, b(1)), b(0)))))
        rows = (("some", twice), ("some", C), ("some", C), ("match",))
        try:
            self.assertIs(is_derivation(program(), ((), goal), rows), False)
        except LimitError:
            pass


class Any(unittest.TestCase):
    def facts(self, rng):
        prover = Prover(rng, FORMULAS, ())
        rules = ()
        for _ in range(rng.randrange(3)):
            p, needed = rng.choice(predicates(FORMULAS))
            rules += (prover.rule((), p, tuple(prover.term((), kind) for kind in needed), TRUE)[0],)
        return rules

    def test_rows(self):
        rng = random_numbers(70)
        seen = {True: 0, False: 0}
        high = 0
        for _ in range(150):
            rules = self.facts(rng)
            holes = tuple(rng.choice(TYPES) for _ in range(rng.randrange(3)))
            goal, rows = Prover(rng, FORMULAS, holes).goal((), rules, rng.randrange(2, 7))
            value, question = program(*rules), (holes, goal)
            self.assertIs(is_derivation(value, question, rows), True)
            self.assertEqual(height(rows), height_by_words(rows))
            high = max(high, height(rows))
            for change in (alike, alike, twisted):
                other = change(rng, rows)
                told = is_derivation(value, question, other)
                self.assertIs(told, derives(value, question, other))
                seen[told] += 1
                other = change(rng, rules)
                if other != () and self.is_right(check_program, (FORMULAS, other)):
                    told = is_derivation((FORMULAS, other), question, rows)
                    self.assertIs(told, derives((FORMULAS, other), question, rows))
                other = (holes, change(rng, goal))
                if self.is_right(check_question, value, other):
                    told = is_derivation(value, other, rows)
                    self.assertIs(told, derives(value, other, rows))
                    seen[told] += 1
        self.assertGreater(min(seen.values()), 60)
        self.assertGreater(high, 1)

    def is_right(self, check, *values):
        try:
            check(*values)
        except ValueError:
            return False
        return True

    def test_what_comes_of_them(self):
        rng = random_numbers(71)
        for _ in range(150):
            rules = self.facts(rng)
            holes = tuple(rng.choice(TYPES) for _ in range(rng.randrange(3)))
            prover = Prover(rng, FORMULAS, holes)
            goal, rows = prover.goal((), rules, rng.randrange(2, 7))
            value = program(*rules)
            constants = tuple(row for row in FORMULAS if row[1][1] != "o")
            new = (A, AA)
            values = tuple(any_term(rng, new, (), kind, rng.randrange(2), constants) for kind in holes)
            told = filled(rows, values)
            self.assertIs(is_derivation(value, (new, fill_goal(values, goal)), told), True)
            self.assertEqual(height(told), height(rows))
            first = rng.randrange(len(rules) + 1)
            more = tuple(class_rule(rng, FORMULAS, (), 2) for _ in range(rng.randrange(3)))
            told = renumbered(rows, first, len(more))
            self.assertIs(is_derivation(program(*rules[:first], *more, *rules[first:]), (holes, goal), told), True)
            kind = rng.choice((A, B, AA))
            goal, rows = prover.goal((kind,), tuple(lift_rule(told, 1) for told in rules), rng.randrange(2, 6))
            question, rows = (holes, ("all", kind, goal)), (("all",),) + rows
            self.assertIs(is_derivation(value, question, rows), True)
            term = prover.term((), kind)
            told = put(value, question, rows, term)
            self.assertTrue(is_plain_data(told))
            self.assertIs(is_derivation(value, (holes, open_goal(goal, (term,))), told), True)
            self.assertEqual(height(told), height(rows))
            self.assertIs(is_derivation(value, (holes, ("all", kind, ("all", A, lift_goal(goal, 1)))), rows), False)


if __name__ == "__main__":
    unittest.main()
