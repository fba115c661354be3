"""Points 63 and 64: the machine tells what the plain search tells."""

import unittest

from lacuna.errors import LimitError
from lacuna.machine import Machine
from lacuna.plain import search

from tests.programs import (
    CASES, DOUBLE, LISTS, PLUS, TRUE, TYPING, WIDE, any_case, atom, both, equal, every, fact, given, many_of, matched,
    number, program, rule,
)
from tests.samples import A, AA, AAA, C, FA, GA, b, c, chain, h, is_plain_data, random_numbers

X = h(0)
D = c("d")


def told_by(ask, *arguments):
    """What is returned, or None if LimitError is raised."""
    try:
        return ask(*arguments)
    except LimitError:
        return None


class Same(unittest.TestCase):
    def same(self, machine, value, question, steps, many):
        """Both tell the same, where neither raises LimitError; returns what they tell."""
        kept = repr((value, question))
        mine = told_by(machine.ask, question, steps, many)
        other = told_by(search, value, question, steps, many)
        self.assertEqual(repr((value, question)), kept)
        if mine is None or other is None:
            return None
        self.assertTrue(is_plain_data(mine))
        self.assertEqual(mine, other)
        return mine

    def test_cases(self):
        for value, question in CASES:
            machine = Machine(value)
            for steps, many in ((100, 200), (60, 9), (20, 1), (7, 2), (0, 1)):
                with self.subTest(question=question, steps=steps, many=many):
                    told = self.same(machine, value, question, steps, many)
                    self.assertTrue(told is not None or value in (WIDE, DOUBLE))

    def test_each_number_of_steps(self):
        for value, question in CASES:
            if value in (WIDE, DOUBLE):
                continue
            machine = Machine(value)
            for steps in range(25):
                with self.subTest(question=question, steps=steps):
                    self.assertIsNotNone(self.same(machine, value, question, steps, 200))

    def test_any(self):
        rng = random_numbers(92)
        skipped = 0
        ends = {}
        for _ in range(1500):
            value, question = any_case(rng)
            told = self.same(Machine(value), value, question, rng.choice((5, 20, 60, 150)), rng.choice((1, 2, 200)))
            if told is None:
                skipped += 1
            else:
                ends[told[1]] = ends.get(told[1], 0) + 1
        self.assertLess(skipped, 20)
        self.assertGreater(min(ends[end] for end in ("closed", "many", "steps", "stuck")), 30)

    def test_large(self):
        for n in (8, 9):
            told = self.same(Machine(DOUBLE), DOUBLE, ((A,), atom("two", chain(n), X)), 100, 1)
            self.assertEqual(told[1], "many" if n == 8 else "large")
        goal = both(atom("two", chain(9), X), both(atom("two", chain(9), h(1)), equal(A, X, h(1))))
        self.assertEqual(self.same(Machine(DOUBLE), DOUBLE, ((A, A), goal), 100, 1)[1], "large")

    def test_many_steps(self):
        # Up to 2000 steps a machine has not too many tries.
        self.assertEqual(Machine(WIDE).ask(((A,), atom("p", X)), 2000, 1), ((), "steps", 2000))
        told = told_by(Machine(WIDE).ask, ((A,), atom("p", X)), 20000, 1)
        self.assertIn(told, (None, ((), "steps", 20000)))
        loop = program(rule((), "t", (), atom("t")))
        self.assertEqual(self.same(Machine(loop), loop, ((), atom("t")), 20000, 1), ((), "steps", 20000))
        question = ((((), "l"),), atom("rev", many_of("cd" * 20), X))
        self.assertEqual(self.same(Machine(LISTS), LISTS, question, 20000, 1)[1], "large")


class Levels(Same):
    """What a machine must do for holes under names."""

    def check(self, goal, holes, rules=()):
        value = program(*rules)
        told = self.same(Machine(value), value, (holes, goal), 100, 200)
        self.assertEqual(told[1], "closed")
        return [answer[1] for answer in told[0]]

    def test_levels_that_are_made_lower(self):
        # Y is made under two names, X outside: Y may use none of the names when they meet; and again in the next state.
        inner = ("some", A, both(equal(A, X, b(0)), equal(A, b(0), b(1))))
        self.assertEqual(self.check(every((A, A), inner), (A,)), [])
        goal = every((A, A), ("some", A, ("or", both(equal(A, X, b(0)), equal(A, b(0), b(1))),
                                          both(equal(A, b(0), b(2)), equal(A, h(1, b(2), b(1)), b(0))))))
        self.assertEqual(self.check(goal, (A, AAA)), [(X, (2, ("b", 1), ()))])

    def test_what_is_undone(self):
        # The level of the inner hole is lower in the first state only.
        goal = ("all", A, ("some", A, both(("or", equal(A, X, b(0)), TRUE), equal(A, b(0), b(1)))))
        self.assertEqual(self.check(goal, (A,)), [(X,)])
        goal = ("all", A, ("some", A, both(("or", equal(A, X, c("s", b(0))), TRUE), equal(A, h(1, b(1)), b(0)))))
        self.assertEqual(self.check(goal, (A, AA)), [(c("s", X), (1, ("h", 0), ())), (X, (1, ("h", 1), (b(0),)))])

    def test_names_as_parts(self):
        goal = every((A, A, A), both(equal(A, h(0, b(2), b(1)), h(1, b(1), b(0))), TRUE))
        self.assertEqual(self.check(goal, (AAA, AAA)), [((2, ("h", 0), (b(0),)), (2, ("h", 0), (b(1),)))])
        goal = every((A, A), ("some", AA, every((A,), equal(A, h(0, b(0), b(2)), b(1, b(0))))))
        self.assertEqual(self.check(goal, (AAA,)), [((2, ("h", 0), (b(1), b(0))),)])
        # A name of a function type, too; its long form has own binders.
        name = (1, ("b", 2), ((1, ("b", 1), (b(0),)),))
        goal = every((FA,), ("some", A, equal(A, h(0, name), b(0))))
        self.assertEqual(self.check(goal, (GA,)), [((1, ("h", 0), (name[:1] + (("b", 1),) + name[2:],)),)])
        goal = every((FA, A), ("some", A, equal(A, h(0, b(1)), b(0))))
        self.assertEqual(self.check(goal, (AA,)), [((1, ("h", 0), (b(0),)),)])

    def test_given_rules(self):
        # Going back brings rules back, and a task behind a given does not see them.
        goal = both(given([fact("p", C), fact("p", D)], atom("p", X)), atom("p", h(1)))
        self.assertEqual(self.check(goal, (A, A), [fact("p", c("e"))]),
                         [(told, c("e")) for told in (C, D, c("e"))])
        goal = both(("or", given([fact("p", C)], atom("p", X)), TRUE), atom("p", h(1)))
        self.assertEqual(self.check(goal, (A, A), [fact("p", c("e"))]),
                         [(C, c("e")), (c("e"), c("e")), (X, c("e"))])

    def test_heads(self):
        rules = [rule((A,), "two", (b(0), b(0))), rule((A, A), "two", (c("f", b(0), b(1)), c("s", b(0)))),
                 fact("two", c("s", C), c("s", D)), rule((A, A), "two", (c("s", b(0)), b(1))),
                 rule((AA,), "two", (c("lam", (1, ("b", 1), (b(0),))), c("lam", (1, ("c", "s"), (b(1, b(0)),))))),
                 rule((A,), "two", (c("lam", (1, ("b", 1), ())), b(0)))]
        terms = (X, h(1), C, c("s", X), c("s", C), c("f", X, h(1)), c("f", X, X), c("lam", (1, ("h", 2), (b(0),))),
                 c("lam", (1, ("c", "s"), (b(0),))), c("lam", (1, ("c", "c"), ())), c("f", C, c("f", h(1), X)))
        answers = 0
        for first in terms:
            for second in terms:
                answers += len(self.check(atom("two", first, second), (A, A, AA), rules))
        self.assertGreater(answers, 100)

    def test_heads_with_binders(self):
        rules = [rule((AA, A), "r", ((1, ("c", "s"), (b(2, b(0)),)), b(0))),
                 rule((AA,), "r", ((1, ("c", "f"), (b(1, b(0)), b(1, b(0)))), C)),
                 rule((A,), "r", ((1, ("c", "f"), (b(0), b(1))), b(0))), rule((AA, A), "r", ((1, ("b", 2), (b(0),)), b(0)))]
        x = (0, ("b", 0), ())
        terms = [(1,) + body[1:] for body in (c("s", x), c("s", c("s", x)), c("s", C), c("f", x, x), c("f", x, C), C, x,
                                              c("f", c("s", x), c("s", x)), h(1, x), c("s", h(1, x)), c("f", x, X))]
        answers = 0
        for first in terms:
            for second in (X, C, c("s", X)):
                answers += len(self.check(atom("r", first, second), (A, AA), rules))
        self.assertGreater(answers, 50)

    def test_matches(self):
        goal = every((A, A), ("some", AA, ("some", A, both(
            equal(A, h(0, b(3)), b(0)), matched(A, c("f", b(1, b(2)), h(0, C)), c("f", b(2), C))))))
        self.assertEqual(len(self.check(goal, (AA,))), 4)
        goal = ("all", A, ("some", AA, ("some", AA, matched(A, c("f", b(0, C), b(1, C)), c("f", C, C)))))
        self.assertEqual(len(self.check(goal, ())), 4)
        goal = every((A,), ("some", A, both(matched(A, b(0), c("f", b(1), C)),
                                            ("all", A, equal(A, h(0, b(2), b(0)), b(1))))))
        self.assertEqual(self.check(goal, (AAA,)), [((2, ("c", "f"), (b(1), C)),)])
        # What is matched is used with other parts later, below other names.
        later = every((A, A), equal(A, h(0, b(0)), b(0)))
        self.assertEqual(self.check(both(matched(A, h(0, C), C), later), (AA,)), [((1, ("b", 0), ()),)])
        later = every((A, A, A), equal(A, h(0, b(0), b(1)), b(0)))
        self.assertEqual(self.check(both(matched(A, h(0, C, D), C), later), (AAA,)), [((2, ("b", 1), ()),)])
        inner = both(matched(A, b(0, C), C), every((A, A), equal(A, b(2, b(0)), b(0))))
        self.assertEqual(self.check(("all", A, ("some", AA, inner)), ()), [()])
        inner = both(matched(A, b(0, C), b(1)), every((A, A), equal(A, b(2, b(0)), b(3))))
        self.assertEqual(self.check(("all", A, ("some", AA, inner)), ()), [()])
        # What is matched may be lowered, and go on to be an argument.
        goal = every((A, A), ("some", A, both(equal(A, h(0, b(2)), b(0)), matched(A, h(0, b(1)), b(1)))))
        self.assertEqual(self.check(goal, (AA,)), [((1, ("b", 0), ()),)])


class Again(Same):
    def test_the_same_question_again(self):
        for value in (PLUS, TYPING, LISTS, program()):
            questions = [question for told, question in CASES if told == value]
            machine = Machine(value)
            first = [repr(machine.ask(question, 40, 9)) for question in questions]
            self.assertGreater(len(questions), 1)
            again = [repr(machine.ask(question, 40, 9)) for question in reversed(questions)]
            self.assertEqual(again[::-1], first)
            self.assertEqual([repr(Machine(value).ask(question, 40, 9)) for question in questions], first)

    def test_behind_others_that_were_not_ended(self):
        machine = Machine(PLUS)
        question = ((A, A), atom("plus", X, h(1), number(3)))
        full = machine.ask(question, 100, 200)
        for steps, many in ((3, 200), (100, 1), (5, 2)):
            machine.ask(question, steps, many)
            self.assertEqual(machine.ask(question, 100, 200), full)


if __name__ == "__main__":
    unittest.main()
