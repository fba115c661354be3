"""Points 50 to 56, and the limits ahead of lacuna/plain.py."""

import unittest

from lacuna.derivations import filled, is_derivation
from lacuna.errors import LimitError
from lacuna.matching import match
from lacuna.plain import search
from lacuna.rules import check_program, check_question, fill_goal

from tests.programs import (
    APPLY, CASES, DOUBLE, E, EXAMPLES, FIRST, GROWING, IDENTITY, L, LISTS, LOOP, PLUS, SELF, SMALL, TRUE, TYPING, WIDE,
    any_case, atom, both, equal, every, fact, given, many_of, matched, number, program, rule,
)
from tests.samples import (
    A, AA, AAA, C, FA, any_term, b, bush, c, chain, h, is_plain_data, nodes, random_numbers,
)
from tests.searches import TooLarge, search_words, terms_of_rows

D = c("d")
X = h(0)


def answer(values, rows, types=()):
    return types, values, rows


class Case(unittest.TestCase):
    def ask(self, value, question, steps=100, many=200):
        self.assertIsNone(check_program(value))
        self.assertIsNone(check_question(value, question))
        kept = repr((value, question))
        told = search(value, question, steps, many)
        self.assertEqual(repr((value, question)), kept)
        self.assertTrue(is_plain_data(told))
        for types, values, rows in told[0]:
            self.assertIs(is_derivation(value, (types, fill_goal(values, question[1])), rows), True)
        return told

    def tells(self, value, question, answers, end, used, **limits):
        with self.subTest(question=question):
            self.assertEqual(self.ask(value, question, **limits), (tuple(answers), end, used))

    def goal(self, goal, answers, end, used, holes=(), rules=(), **limits):
        self.tells(program(*rules), (holes, goal), answers, end, used, **limits)

    def values(self, value, question):
        """The values of the answers."""
        return [values for _, values, _ in self.ask(value, question)[0]]


class Examples(Case):
    def test_plus(self):
        one, zero = number(1), number(0)
        self.tells(*EXAMPLES[0], [
            answer((zero, one), (("use", 0, (one,)), TRUE)),
            answer((one, zero), (("use", 1, (zero, zero, zero)), ("use", 0, (zero,)), TRUE)),
        ], "closed", 4)

    def test_some_and_all(self):
        self.tells(*EXAMPLES[1], [], "closed", 3)
        self.tells(*EXAMPLES[2], [answer((), (("all",), ("some", b(0)), ("equal",)))], "closed", 3)

    def test_functions(self):
        self.tells(*EXAMPLES[3], [answer(((2, ("h", 0), (b(1), b(0))), (2, ("h", 0), (b(0), b(1)))),
                                         (("all",), ("all",), ("equal",)), (AAA,))], "closed", 3)

    def test_given(self):
        self.tells(*EXAMPLES[4], [], "closed", 8)
        for steps in range(8):
            self.assertEqual(search(*EXAMPLES[4], steps, 1), ((), "steps", steps))

    def test_typing(self):
        hole = X
        rows = (("use", 0, (IDENTITY, hole, hole)), ("all",), ("given",), ("use", 2, ()), TRUE)
        self.tells(*EXAMPLES[5], [answer((c("arr", hole, hole),), rows, (E,))], "closed", 5)
        self.assertEqual(self.values(TYPING, ((E,), atom("of", SELF, X))), [])
        self.assertEqual(self.values(TYPING, ((E,), atom("of", FIRST, X))), [(c("arr", X, c("arr", h(1), X)),)])
        told = c("arr", c("arr", X, h(1)), c("arr", X, h(1)))
        self.assertEqual(self.values(TYPING, ((E,), atom("of", APPLY, X))), [(told,)])

    def test_loop(self):
        for steps in (0, 1, 2, 50, 20000):
            self.tells(*EXAMPLES[6], [], "steps", steps, steps=steps)

    def test_match_under_a_function(self):
        self.tells(*EXAMPLES[7], [], "stuck", 3)
        # Also if the function plays no part, and though the answer would not use it.
        goal = ("all", AA, ("some", A, matched(A, b(0), C)))
        self.goal(goal, [], "stuck", 3)
        # A hole from outside cannot use it.
        self.goal(("some", A, ("all", AA, matched(A, b(1), C))),
                  [answer((), (("some", C), ("all",), ("match",)))], "closed", 3)


class Forms(Case):
    def test_true(self):
        self.goal(TRUE, [answer((), (TRUE,))], "closed", 1)
        self.goal(TRUE, [answer((X, (1, ("h", 1), (b(0),))), (TRUE,), (A, AA))], "closed", 1,
                  holes=(A, AA))

    def test_and(self):
        goal = both(equal(A, X, C), equal(A, h(1), X))
        self.goal(goal, [answer((C, C), (("and",), ("equal",), ("equal",)))], "closed", 3, holes=(A, A))
        self.goal(both(equal(A, C, D), atom("t")), [], "closed", 2)
        # The parts of the first side go ahead of the second one.
        self.goal(both(both(equal(A, X, C), TRUE), equal(A, X, D)), [], "closed", 5, holes=(A,))

    def test_or(self):
        rows = (("left",), ("equal",)), (("right",), ("left",), ("equal",)), (("right",), ("right",), TRUE)
        goal = ("or", equal(A, X, C), ("or", equal(A, X, D), TRUE))
        self.goal(goal, [answer((C,), rows[0]), answer((D,), rows[1]), answer((X,), rows[2], (A,))], "closed", 5,
                  holes=(A,))
        # One side is as if the other one had never been.
        goal = ("or", both(equal(A, X, C), equal(A, X, D)), equal(A, X, c("e")))
        self.goal(goal, [answer((c("e"),), (("right",), ("equal",)))], "closed", 5, holes=(A,))

    def test_some(self):
        self.goal(("some", A, TRUE), [answer((), (("some", X), TRUE), (A,))], "closed", 2)
        self.goal(("some", AA, ("all", A, equal(A, b(1, b(0)), c("s", b(0))))),
                  [answer((), (("some", (1, ("c", "s"), (b(0),))), ("all",), ("equal",)))], "closed", 3)
        # The new hole has the names of the prefix, and then its own arguments.
        goal = ("all", A, ("some", AA, ("all", A, TRUE)))
        self.goal(goal, [answer((), (("all",), ("some", (1, ("h", 0), (b(1), b(0)))), ("all",), TRUE), (AAA,))],
                  "closed", 4)

    def test_all(self):
        self.goal(every((A, AA), TRUE), [answer((), (("all",), ("all",), TRUE))], "closed", 3)
        self.goal(("all", A, equal(A, X, b(0))), [], "closed", 2, holes=(A,))
        self.goal(("all", A, equal(A, h(0, b(0)), b(0))), [answer((IDENTITY,), (("all",), ("equal",)))], "closed", 2,
                  holes=(AA,))
        # Rules are taken into the longer prefix.
        goal = ("all", A, given([fact("p", b(0))], ("all", A, atom("p", b(1)))))
        self.goal(goal, [answer((), (("all",), ("given",), ("all",), ("use", 0, ()), TRUE))], "closed", 5)
        goal = ("all", A, given([fact("p", b(0))], ("all", A, atom("p", b(0)))))
        self.goal(goal, [], "closed", 4)

    def test_given(self):
        goal = given([fact("p", X), rule((A,), "q", (b(0),), atom("p", b(0)))], atom("q", C))
        self.goal(goal, [answer((C,), (("given",), ("use", 1, (C,)), ("use", 0, ()), TRUE))], "closed", 4, holes=(A,))
        # A rule is used as often as one likes, its variables being new each time, but holes being the same.
        goal = given([fact("p", X)], both(atom("p", C), atom("p", D)))
        self.goal(goal, [], "closed", 5, holes=(A,))
        goal = given([rule((A,), "p", (b(0),))], both(atom("p", C), atom("p", D)))
        rows = (("given",), ("and",), ("use", 0, (C,)), TRUE, ("use", 0, (D,)), TRUE)
        self.goal(goal, [answer((), rows)], "closed", 6)
        # Behind a given its rules are gone.
        goal = both(given([fact("t")], atom("t")), atom("t"))
        self.goal(goal, [], "closed", 5)

    def test_equal(self):
        self.goal(equal(A, C, C), [answer((), (("equal",),))], "closed", 1)
        self.goal(equal(A, C, D), [], "closed", 1)
        self.goal(equal(A, X, c("s", X)), [], "closed", 1, holes=(A,))
        self.goal(equal(AA, (1, ("h", 0), (b(0),)), IDENTITY), [answer((IDENTITY,), (("equal",),))], "closed", 1,
                  holes=(AA,))
        self.goal(equal(A, X, h(1)), [answer((X, X), (("equal",),), (A,))], "closed", 1, holes=(A, A))

    def test_atom(self):
        self.goal(atom("t"), [], "closed", 1)
        rules = (fact("two", C, D), rule((A,), "two", (b(0), b(0))), fact("p", C))
        self.goal(atom("two", X, h(1)), [answer((C, D), (("use", 0, ()), TRUE)),
                                         answer((X, X), (("use", 1, (X,)), TRUE), (A,))], "closed", 3, holes=(A, A),
                  rules=rules)
        # Variables of functions, in the head as long forms, in the body with names as parts.
        rules = (rule((AA, A), "r", ((1, ("b", 2), (b(0),)), b(0)), ("all", A, equal(A, b(2, b(0)), b(1)))),)
        self.goal(atom("r", (1, ("c", "c"), ()), X),
                  [answer((C,), (("use", 0, ((1, ("c", "c"), ()), C)), ("all",), ("equal",)))], "closed", 3,
                  holes=(A,), rules=rules)
        self.goal(atom("r", IDENTITY, X), [], "closed", 3, holes=(A,), rules=rules)
        # Variables that are in neither are left as holes.
        rules = (rule((A, AA), "t", ()),)
        self.goal(("all", A, atom("t")), [
            answer((), (("all",), ("use", 0, (h(0, b(0)), (1, ("h", 1), (b(1), b(0))))), TRUE), (AA, AAA)),
        ], "closed", 3, rules=rules)


class Order(Case):
    def test_rules(self):
        names = "abcdef"
        signature = tuple((name, A) for name in names) + (("p", ((A,), "o")), ("q", ((A,), "o")))
        facts = {name: fact("p", c(name)) for name in names}
        value = (signature, (facts["a"], fact("q", c("a")), facts["b"]))
        goal = given([facts["c"], facts["d"]], given([facts["e"], facts["f"]], atom("p", X)))
        answers = []
        for name, number_of_rule in (("e", 5), ("f", 6), ("c", 3), ("d", 4), ("a", 0), ("b", 2)):
            answers.append(answer((c(name),), (("given",), ("given",), ("use", number_of_rule, ()), TRUE)))
        self.tells(value, ((A,), goal), answers, "closed", 9)

    def test_rules_in_bodies(self):
        # A rule that is put in by the body of a program's rule is tried ahead of those of the question.
        rules = (rule((), "t", (), given([fact("p", C)], ("some", A, atom("p", b(0))))),)
        goal = given([fact("p", D)], atom("t"))
        told = self.ask(program(*rules), ((), goal))
        self.assertEqual([rows[3] for _, _, rows in told[0]], [("some", C), ("some", D)])
        self.assertEqual([rows[4] for _, _, rows in told[0]], [("use", 2, ()), ("use", 1, ())])

    def test_states(self):
        # What comes of the first state comes ahead of the other ones.
        goal = both(("or", equal(A, h(0), C), equal(A, h(0), D)), ("or", equal(A, h(1), C), equal(A, h(1), D)))
        self.assertEqual(self.values(program(), ((A, A), goal)), [(C, C), (C, D), (D, C), (D, D)])


class Ends(Case):
    def test_closed(self):
        self.goal(atom("t"), [], "closed", 1, steps=1)
        self.goal(equal(A, C, C), [answer((), (("equal",),))], "closed", 1, steps=1)
        self.goal(equal(A, C, C), [answer((), (("equal",),))], "closed", 1, steps=20000)

    def test_many(self):
        told = self.ask(GROWING, ((A,), atom("p", X)), 1000, 5)
        self.assertEqual((told[1], told[2]), ("many", 10))
        self.assertEqual([values for _, values, _ in told[0]], [(chain(n, C),) for n in range(5)])
        # As soon as there are so many, whatever comes behind.
        self.goal(TRUE, [answer((), (TRUE,))], "many", 1, many=1)
        self.goal(TRUE, [answer((), (TRUE,))], "many", 1, many=1, steps=1)
        goal = ("or", TRUE, matched(A, C, X))
        self.goal(goal, [answer((X,), (("left",), TRUE), (A,))], "many", 2, holes=(A,), many=1)
        self.goal(goal, [answer((X,), (("left",), TRUE), (A,))], "stuck", 3, holes=(A,), many=2)

    def test_steps(self):
        for value, question in ((PLUS, ((A, A), atom("plus", X, h(1), number(4)))), (LISTS, CASES[13][1])):
            full = self.ask(value, question, 1000)
            self.assertEqual(full[1], "closed")
            for steps in range(full[2] + 1):
                told = self.ask(value, question, steps)
                self.assertEqual(told[0], full[0][:len(told[0])])
                self.assertEqual(told[1:], ("steps", steps) if steps < full[2] else full[1:])
        self.goal(TRUE, [], "steps", 0, steps=0)

    def test_the_last_step(self):
        # When the steps are used up there may be no state that is left, or one more answer.
        self.goal(both(TRUE, TRUE), [answer((), (("and",), TRUE, TRUE))], "closed", 3, steps=3)
        self.goal(both(TRUE, TRUE), [], "steps", 2, steps=2)
        self.goal(both(TRUE, TRUE), [answer((), (("and",), TRUE, TRUE))], "many", 3, steps=3, many=1)
        goal = both(TRUE, matched(A, C, X))
        self.goal(goal, [], "steps", 2, holes=(A,), steps=2)
        self.goal(goal, [], "stuck", 3, holes=(A,), steps=3)

    def test_stuck(self):
        for holes, goal in (
            ((A,), matched(A, C, X)), ((AA,), ("all", A, matched(A, C, h(0, b(0))))),
            ((FA,), ("all", AA, matched(A, h(0, (1, ("b", 1), (b(0),))), C))),
            ((A,), matched(A, C, c("s", X))), ((A,), matched(A, X, X)),
        ):
            names = 1 if goal[0] == "all" else 0
            self.goal(goal, [], "stuck", 1 + names, holes=holes)
            self.goal(both(goal, TRUE), [], "stuck", 2 + names, holes=holes)
        # The hole with a function as a part stands within the part of another one.
        goal = ("all", AA, ("some", A, matched(A, h(0, b(0)), C)))
        self.goal(goal, [], "stuck", 3, holes=(AA,))
        # A hole that is filled is none, and neither is a part that is left out.
        self.goal(both(equal(A, X, C), matched(A, C, X)), [answer((C,), (("and",), ("equal",), ("match",)))],
                  "closed", 3, holes=(A,))
        goal = both(("all", A, equal(A, h(0, b(0)), C)), matched(A, h(0, h(1)), C))
        self.goal(goal, [answer(((1, ("c", "c"), ()), X), (("and",), ("all",), ("equal",), ("match",)), (A,))],
                  "closed", 4, holes=(AA, A))
        # What was told before stays told; what would come behind is not looked at.
        goal = ("or", equal(A, X, C), ("or", matched(A, X, X), equal(A, X, D)))
        self.goal(goal, [answer((C,), (("left",), ("equal",)))], "stuck", 4, holes=(A,))

    def test_large(self):
        # The values and the rows count together.
        signature = SMALL + (("five", ((A,) * 5, "a")),)
        for more, fits in ((0, True), (1, False)):
            goal = both(*[equal(A, h(k), bush(200)) for k in range(9)], equal(A, h(9), bush(200 + more)))
            told = self.ask((signature, ()), ((A,) * 10, goal))
            self.assertEqual(told[1:], ("closed", 19) if fits else ("large", 19))
            self.assertEqual(len(told[0]), int(fits))
            goal = both(*[equal(A, h(k), bush(200)) for k in range(8)],
                        ("some", A, both(equal(A, b(0), bush(200)), equal(A, h(8), bush(200 + more)))))
            told = self.ask((signature, ()), ((A,) * 9, ("or", TRUE, ("or", goal, TRUE))))
            self.assertEqual(told[1], "closed" if fits else "large")
            self.assertEqual(len(told[0]), 3 if fits else 1)

    def test_large_by_holes(self):
        # A hole that is left under ten names has these as its parts: it has eleven nodes.
        signature = SMALL + (("five", ((A,) * 5, "a")),)
        left = every((A,) * 10, both(*[("some", A, TRUE)] * 15))
        for last, fits in ((35, True), (36, False)):
            goal = both(left, *[equal(A, h(k), bush(200)) for k in range(9)], equal(A, h(9), bush(last)))
            told = self.ask((signature, ()), ((A,) * 10, goal))
            self.assertEqual(told[1], "closed" if fits else "large")
            for _, values, rows in told[0]:
                self.assertEqual(sum(map(nodes, values)), 9 * 200 + 35)
                self.assertEqual(sum(map(nodes, terms_of_rows(rows))), 15 * 11)

    def test_deep(self):
        # The last value is 100 terms deep, or one more.
        for more, ends in ((0, ("closed",)), (1, ("large", "limit"))):
            goal = TRUE
            for k in range(11, 0, -1):
                goal = both(equal(A, h(k), chain(9, h(k - 1))), goal)
            goal = both(equal(A, h(0), C if not more else c("s", C)), goal)
            try:
                told = self.ask(program(), ((A,) * 12, goal))
            except LimitError:
                told = ((), "limit", 0)
            self.assertIn(told[1], ends)
            if not more:
                self.assertEqual(told[0][0][1][11], chain(99, C))


class Tidy(Case):
    def test_holes_in_the_order_of_values_and_rows(self):
        # Behind the values those in the rows come, each with falling binders at its first place.
        goal = ("some", A, every((A, A), ("some", AA, ("some", A, equal(A, h(1, b(2), b(3)), h(0, b(3)))))))
        told = self.ask(program(), ((AA, AAA), goal))
        types, values, rows = told[0][0]
        self.assertEqual(types, (AA, A, ((A, A, A), "a"), AAA))
        self.assertEqual(values, ((1, ("h", 0), (b(0),)), (2, ("h", 0), (b(0),))))
        self.assertEqual(rows, (("some", h(1)), ("all",), ("all",), ("some", (1, ("h", 2), (b(2), b(1), b(0)))),
                                ("some", h(3, b(1), b(0))), ("equal",)))

    def test_arguments_that_are_turned(self):
        goal = ("some", AAA, every((A, A), equal(A, h(0, b(0), b(1)), b(2, b(1), b(0)))))
        self.goal(goal, [answer(((2, ("h", 0), (b(1), b(0))),),
                                (("some", (2, ("h", 0), (b(0), b(1)))), ("all",), ("all",), ("equal",)), (AAA,))],
                  "closed", 4, holes=(AAA,))

    def test_holes_that_are_forgotten(self):
        goal = every((A, A), ("some", A, equal(A, h(0, b(1)), b(0))))
        self.goal(goal, [answer(((1, ("h", 0), (b(0),)),),
                                (("all",), ("all",), ("some", h(0, b(0))), ("equal",)), (AA,))],
                  "closed", 4, holes=(AA,))
        goal = ("all", A, ("some", A, equal(A, X, b(0))))
        self.goal(goal, [answer((X,), (("all",), ("some", X), ("equal",)), (A,))], "closed", 3, holes=(A,))


class Matches(Case):
    def test_answers_in_order(self):
        ff = c("f", C, C)
        told = self.ask(program(), ((AA,), matched(A, h(0, C), ff)))
        bodies = [c("f", b(0), b(0)), c("f", b(0), C), c("f", C, b(0)), ff]
        self.assertEqual(told, (tuple(answer(((1,) + body[1:],), (("match",),)) for body in bodies), "closed", 1))
        told = self.ask(program(), ((AA, AA), matched(A, h(0, h(1, C)), C)))
        constant = (1, ("c", "c"), ())
        self.assertEqual([values for _, values, _ in told[0]],
                         [(IDENTITY, IDENTITY), (IDENTITY, constant), (constant, (1, ("h", 0), (b(0),)))])

    def test_holes_are_numbered_as_in_the_values(self):
        # The hole that is written first in the match is the second one of the question.
        constant = (1, ("c", "c"), ())
        goal = matched(A, c("f", h(1, C), h(0, C)), c("f", C, C))
        self.assertEqual(self.values(program(), ((AA, AA), goal)),
                         [(IDENTITY, IDENTITY), (IDENTITY, constant), (constant, IDENTITY), (constant, constant)])
        # The values tell the holes in another order than they were made: the second one stands in the first value.
        first = ("all", A, equal(A, h(0, b(0)), c("f", h(2, b(0)), h(1, b(0)))))
        goal = both(first, matched(A, c("f", h(1, D), h(2, D)), c("f", D, D)))
        told = self.values(program(), ((AA, AA, AA), goal))
        constant = (1, ("c", "d"), ())
        self.assertEqual([values[1:] for values in told],
                         [(IDENTITY, IDENTITY), (constant, IDENTITY), (IDENTITY, constant), (constant, constant)])

    def test_holes_of_the_rows(self):
        # The hole of some is not in the values; the one that was made first comes first.
        inner = both(matched(A, c("f", b(0, C), b(1, C)), c("f", C, C)), TRUE)
        goal = ("some", AA, ("some", AA, inner))
        told = self.ask(program(), ((), goal))
        constant = (1, ("c", "c"), ())
        self.assertEqual([(rows[0][1], rows[1][1]) for _, _, rows in told[0]],
                         [(IDENTITY, IDENTITY), (IDENTITY, constant), (constant, IDENTITY), (constant, constant)])

    def test_arguments_are_in_the_order_of_the_values(self):
        # The value of H has the parts of the left hole in another order than the match.
        goal = every((A, A), both(equal(A, h(0, b(1), b(0)), h(1, b(0), b(1))), TRUE))
        goal = both(goal, matched(A, h(1, C, D), c("f", D, C)))
        value = program()
        told = self.ask(value, ((AAA, AAA), goal))
        answers = match((SMALL, (AAA,), (((), A, h(0, D, C), c("f", D, C)),)))
        self.assertEqual([values[0] for _, values, _ in told[0]], [values[0] for _, values in answers])
        self.assertEqual(len(answers), 4)

    def test_under_names(self):
        goal = every((A, A), ("some", A, matched(A, b(0), c("f", b(1), b(2)))))
        told = self.ask(program(), ((), goal))
        self.assertEqual([rows[2] for _, _, rows in told[0]], [("some", c("f", b(0), b(1)))])
        goal = every((A, A), ("some", A, both(equal(A, h(0, b(1)), b(0)), matched(A, h(0, C), C))))
        self.assertEqual(len(self.values(program(), ((AA,), goal))), 2)

    def test_none(self):
        self.goal(matched(A, c("s", X), C), [], "closed", 1, holes=(A,))
        self.goal(matched(A, C, D), [], "closed", 1)
        self.goal(matched(A, C, C), [answer((), (("match",),))], "closed", 1)

    def test_too_many(self):
        # 2048 answers are more than match may have.
        term = c("f", c("f", c("f", C, C), c("f", C, C)), c("f", c("f", C, C), c("f", C, c("f", C, c("f", C, C)))))
        with self.assertRaises(LimitError):
            search(program(), ((AA,), matched(A, h(0, C), c("f", term, term))), 5, 5)


class Limits(Case):
    def test_many_states(self):
        # Above 2000 states LimitError may be raised, and not below.
        self.assertEqual(search(WIDE, ((A,), atom("p", X)), 1999, 1), ((), "steps", 1999))
        try:
            self.assertEqual(search(WIDE, ((A,), atom("p", X)), 3000, 1), ((), "steps", 3000))
        except LimitError:
            pass

    def test_large_states(self):
        for value, question in (
            (DOUBLE, ((A, A), atom("two", chain(19), X))),
            ((SMALL, (rule((A,), "p", (b(0),), atom("p", c("f", b(0), b(0)))),)), ((A,), atom("p", X))),
            ((SMALL, (rule((A,), "p", (b(0),), atom("p", c("s", b(0)))),)), ((A,), atom("p", X))),
            ((SMALL, (rule((A,), "p", (c("f", b(0), b(0)),), atom("p", b(0))),)), ((A,), atom("p", X))),
        ):
            try:
                told = search(value, question, 300, 1)
                self.assertIn(told[1], ("large", "steps"))
            except LimitError:
                pass

    def test_two_large_trees(self):
        goal = both(atom("two", chain(19), X), both(atom("two", chain(19), h(1)), equal(A, X, h(1))))
        try:
            self.assertEqual(search(DOUBLE, ((A, A), goal), 300, 1)[1], "large")
        except LimitError:
            pass
        goal = both(atom("two", chain(9), X), both(atom("two", chain(9), h(1)), equal(A, X, h(1))))
        self.assertEqual(search(DOUBLE, ((A, A), goal), 300, 1)[1], "large")
        goal = both(atom("two", chain(8), X), both(atom("two", chain(8), h(1)), equal(A, X, h(1))))
        self.assertEqual(search(DOUBLE, ((A, A), goal), 300, 1)[1:], ("large", 23))

    def test_many_steps(self):
        # Reversing n entries takes so many steps; the rows become large, but they are looked at as they are told.
        for n, end in ((8, "many"), (24, "large")):
            told = search(LISTS, ((L,), atom("rev", many_of("cd" * (n // 2)), X)), 20000, 1)
            self.assertEqual(told[1:], (end, 2 + 4 * n + n * (n - 1) // 2))
            if end == "many":
                self.assertEqual(told[0][0][1], (many_of("dc" * (n // 2)),))


class Words(Case):
    def test_cases(self):
        for value, question in CASES:
            for steps, many in ((60, 9), (7, 2)):
                with self.subTest(question=question):
                    told = self.ask(value, question, steps, many)
                    try:
                        self.assertEqual(told, search_words(value, question, steps, many))
                    except (TooLarge, LimitError):
                        self.assertIn(value, (LOOP, WIDE, DOUBLE))

    def test_any(self):
        rng = random_numbers(90)
        ends = {}
        answers = 0
        for _ in range(700):
            value, question = any_case(rng)
            steps, many = rng.choice((5, 20, 40)), rng.choice((1, 2, 200))
            try:
                told = self.ask(value, question, steps, many)
                self.assertEqual(told, search_words(value, question, steps, many))
            except (TooLarge, LimitError):
                told = ((), "limit", 0)
            ends[told[1]] = ends.get(told[1], 0) + 1
            answers += len(told[0])
        self.assertGreater(answers, 150)
        for end, least in (("closed", 300), ("many", 40), ("steps", 20), ("stuck", 20)):
            self.assertGreater(ends[end], least)
        self.assertLess(ends.get("limit", 0), 30)

    def test_filled_answers(self):
        # Left holes may be filled with anything, and what is filled is a derivation.
        rng = random_numbers(91)
        seen = 0
        for _ in range(300):
            value, question = any_case(rng, False)
            constants = tuple(row for row in value[0] if row[1][1] != "o")
            try:
                told = search(value, question, 20, 3)[0]
            except LimitError:
                continue
            for types, values, rows in told:
                if sum(map(nodes, values)) + sum(map(nodes, terms_of_rows(rows))) > 100:
                    continue
                more = tuple(any_term(rng, (A,), (), kind, rng.randrange(2), constants) for kind in types)
                seen += types != ()
                goal = fill_goal(more, fill_goal(values, question[1]))
                self.assertIs(is_derivation(value, ((A,), goal), filled(rows, more)), True)
        self.assertGreater(seen, 40)


if __name__ == "__main__":
    unittest.main()
