"""Points 57 to 59."""

import unittest

from lacuna.derivations import height, is_derivation
from lacuna.errors import HasMatch, LimitError
from lacuna.heights import by_height, is_refusal, refusal
from lacuna.patterns import follow, row
from lacuna.plain import search
from lacuna.rules import fill_goal

from tests.formulas import JUNK, alike, twisted
from tests.programs import (
    CASES, DOUBLE, EXAMPLES, GROWING, LOOP, PLUS, SMALL, TRUE, TYPING, WIDE, any_case, atom, both, equal, every,
    fact, given, matched, number, program, rule,
)
from tests.samples import A, AA, C, b, c, chain, h, is_plain_data, random_numbers
from tests.searches import TooLarge, height_words

X = h(0)
D = c("d")
ONE_HOLE = (A,)


def has_match(goal):
    """Whether a match is anywhere in a goal."""
    if goal[0] == "given":
        return any(has_match(told[3]) for told in goal[1]) or has_match(goal[2])
    return goal[0] == "match" or any(has_match(part) for part in goal[1:] if type(part) is tuple and part and goal[0] in
                                     ("and", "or", "some", "all") and type(part[0]) is str)


def without_match():
    return [(value, question) for value, question in CASES
            if not has_match(question[1]) and not any(has_match(told[3]) for told in value[1])]


class Case(unittest.TestCase):
    def ask(self, value, question, most):
        kept = repr((value, question))
        told = by_height(value, question, most)
        self.assertEqual(repr((value, question)), kept)
        self.assertTrue(is_plain_data(told))
        for types, values, rows in told[0]:
            self.assertIs(is_derivation(value, (types, fill_goal(values, question[1])), rows), True)
            self.assertLessEqual(height(rows), most)
        return told


class ByHeight(Case):
    def test_height_0(self):
        for goal, told in (
            (TRUE, ((((), (), (TRUE,)),), "closed")),
            (atom("t"), ((), "open")),
            (both(equal(A, C, D), atom("t")), ((), "closed")),
            (("or", atom("t"), TRUE), ((((), (), (("right",), TRUE)),), "open")),
            (("or", TRUE, atom("t")), ((((), (), (("left",), TRUE)),), "open")),
            (both(TRUE, atom("t")), ((), "open")),
            (("all", A, ("some", A, equal(A, b(0), b(1)))),
             ((((), (), (("all",), ("some", b(0)), ("equal",))),), "closed")),
            (given([fact("t")], TRUE), ((((), (), (("given",), TRUE)),), "closed")),
        ):
            with self.subTest(goal=goal):
                # That there is no rule for an atom is not looked at.
                self.assertEqual(self.ask(program(), ((), goal), 0), told)

    def test_height_1(self):
        self.assertEqual(self.ask(program(), ((), atom("t")), 1), ((), "closed"))
        self.assertEqual(self.ask(program(fact("t")), ((), atom("t")), 1),
                         ((((), (), (("use", 0, ()), TRUE)),), "closed"))
        # Rows of use count on a way from the first row down alone, not in all.
        goal = both(atom("t"), both(atom("t"), atom("t")))
        self.assertEqual(self.ask(program(fact("t")), ((), goal), 1)[1], "closed")
        chained = program(rule((), "t", (), atom("p", C)), fact("p", C))
        self.assertEqual(self.ask(chained, ((), atom("t")), 1), ((), "open"))
        self.assertEqual(self.ask(chained, ((), atom("t")), 2)[1], "closed")
        # Rules that are put in count as well.
        goal = given([rule((), "t", (), atom("p", C)), fact("p", C)], atom("t"))
        self.assertEqual(self.ask(program(), ((), goal), 1), ((), "open"))
        self.assertEqual(len(self.ask(program(), ((), goal), 2)[0]), 1)

    def test_answers_at_just_their_height(self):
        question = (ONE_HOLE, atom("p", X))
        for most in range(12):
            answers, end = self.ask(GROWING, question, most)
            self.assertEqual(end, "open")
            self.assertEqual([values for _, values, _ in answers], [(chain(n, C),) for n in range(most)])
        question = ((A, A), atom("plus", X, h(1), number(4)))
        for most in range(8):
            answers, end = self.ask(PLUS, question, most)
            self.assertEqual(end, "closed" if most > 4 else "open")
            self.assertEqual([values for _, values, _ in answers],
                             [(number(n), number(4 - n)) for n in range(min(most, 5))])

    def test_no_end(self):
        for most in (0, 1, 7, 30):
            self.assertEqual(self.ask(LOOP, ((), atom("t")), most), ((), "open"))
            self.assertIsNone(refusal(LOOP, ((), atom("t")), most))

    def test_greater_heights_tell_the_same_in_the_same_order(self):
        for value, question in without_match():
            if value in (WIDE, DOUBLE):
                continue
            with self.subTest(question=question):
                before, ended = (), False
                for most in range(7):
                    answers, end = self.ask(value, question, most)
                    if ended:
                        self.assertEqual((answers, end), (before, "closed"))
                    self.assertEqual([told for told in answers if told in before], list(before))
                    self.assertEqual([told for told in answers if height(told[2]) <= most], list(answers))
                    before, ended = answers, end == "closed"
                if ended:
                    self.assertEqual(search(value, question, 20000, 200)[:2], (before, "closed"))

    def test_each_height_tells_what_has_it(self):
        answers = self.ask(TYPING, CASES[10][1], 30)[0]
        self.assertEqual(len(answers), 1)
        high = height(answers[0][2])
        self.assertEqual(self.ask(TYPING, CASES[10][1], high)[0], answers)
        self.assertEqual(self.ask(TYPING, CASES[10][1], high - 1), ((), "open"))

    def test_large(self):
        question = (ONE_HOLE, atom("two", chain(9), X))
        self.assertEqual(self.ask(DOUBLE, question, 9), ((), "open"))
        self.assertEqual(self.ask(DOUBLE, question, 10), ((), "large"))
        # Answers ahead of it are told, and nothing behind it.
        goal = ("or", equal(A, X, C), ("or", atom("two", chain(9), X), equal(A, X, D)))
        self.assertEqual(self.ask(DOUBLE, (ONE_HOLE, goal), 10), ((((), (C,), (("left",), ("equal",))),), "large"))
        self.assertEqual([values for _, values, _ in self.ask(DOUBLE, (ONE_HOLE, goal), 9)[0]], [(C,), (D,)])
        # That something was not looked at plays no part then.
        goal = ("or", both(atom("two", chain(15), X), TRUE), atom("two", chain(9), X))
        self.assertEqual(self.ask(DOUBLE, (ONE_HOLE, goal), 10), ((), "large"))
        self.assertIsNone(refusal(DOUBLE, (ONE_HOLE, goal), 10))
        self.assertIs(is_refusal(DOUBLE, question, ()), False)

    def test_too_many_steps(self):
        try:
            self.assertEqual(by_height(WIDE, (ONE_HOLE, atom("p", X)), 30), ((), "open"))
        except LimitError:
            pass
        self.assertEqual(by_height(WIDE, (ONE_HOLE, atom("p", X)), 10), ((), "open"))

    def test_any(self):
        rng = random_numbers(93)
        seen = {"open": 0, "closed": 0}
        answers = 0
        for _ in range(700):
            value, question = any_case(rng, False)
            most = rng.choice((0, 1, 2, 3, 5))
            try:
                expected = height_words(value, question, most)[0]
                told = self.ask(value, question, most)
            except (TooLarge, LimitError):
                continue
            self.assertEqual(told, expected)
            seen[told[1]] += 1
            answers += len(told[0])
        self.assertGreater(min(seen.values()), 60)
        self.assertGreater(answers, 100)


class Matches(unittest.TestCase):
    def raises(self, value, question):
        for ask in (
            lambda: by_height(value, question, 0), lambda: by_height(value, question, 3),
            lambda: refusal(value, question, 3), lambda: is_refusal(value, question, ()),
            lambda: is_refusal(value, question, None), lambda: is_refusal(value, question, (((),),)),
        ):
            with self.subTest(question=question), self.assertRaises(HasMatch):
                ask()

    def test_anywhere(self):
        one = matched(A, C, C)
        for goal in (
            one, both(TRUE, one), ("or", one, TRUE), ("or", TRUE, one), ("some", A, one), ("all", A, one),
            given([fact("t")], one), given([rule((), "t", (), one)], TRUE),
            given([fact("t"), rule((A,), "p", (b(0),), given([rule((), "t", (), ("all", A, one))], TRUE))], TRUE),
            both(equal(A, C, D), one),
        ):
            self.raises(program(), ((), goal))
            self.raises(program(fact("t"), rule((), "t", (), goal)), ((), TRUE))
            self.raises(LOOP, ((), both(atom("t"), goal)))

    def test_before_limits(self):
        deep = (SMALL, DOUBLE[1] + WIDE[1] + (rule((), "t", (), matched(A, C, C)),))
        self.raises(deep, (ONE_HOLE, both(atom("p", X), atom("two", chain(19), X))))
        self.raises(program(), (ONE_HOLE, matched(A, C, X)))


class Refusals(Case):
    def refused(self, value, question, most, many=None):
        """A refusal, of so many rows."""
        self.assertEqual(self.ask(value, question, most), ((), "closed"))
        kept = repr((value, question))
        paper = refusal(value, question, most)
        self.assertTrue(is_plain_data(paper))
        self.assertIs(type(paper), tuple)
        self.assertIs(is_refusal(value, question, paper), True)
        self.assertEqual(repr((value, question)), kept)
        if many is not None:
            self.assertEqual(len(paper), many)
        for at in range(len(paper)):
            self.assertIs(is_refusal(value, question, paper[:at]), False)
        for more in ((), (("out", 0, 0),), ("meet", 0), None):
            self.assertIs(is_refusal(value, question, paper + (more,)), False)
        return paper

    def test_each_problem(self):
        self.refused(program(), ((), atom("t")), 1, 0)
        self.refused(program(), ((), equal(A, C, D)), 0, 1)
        self.assertEqual(self.refused(program(), ((), both(TRUE, equal(A, C, D))), 0), ((),))
        # Rules without parts have the empty row; each rule for the predicate is tried, and no other one.
        value = program(rule((), "t", (), equal(A, C, D)), fact("p", D), rule((), "t", (), equal(A, D, c("e"))))
        self.assertEqual(self.refused(value, ((), atom("t")), 1), ((),) * 4)
        self.refused(value, ((), both(atom("p", C), TRUE)), 1, 1)
        self.refused(PLUS, (ONE_HOLE, atom("plus", c("s", X), c("z"), c("z"))), 1, 2)

    def test_steps_in_their_order(self):
        self.assertEqual(self.refused(*EXAMPLES[1], 0), ((("out", 0, 1),),))
        self.assertEqual(self.refused(program(), (ONE_HOLE, equal(A, X, c("s", X))), 0), ((("round", 0, 0),),))
        goal = both(equal(A, X, C), both(equal(A, h(1), D), equal(A, X, h(1))))
        self.assertEqual(self.refused(program(), ((A, A), goal), 0), ((("copy", 0, 0),), (("copy", 0, 0),), ()))
        # Rules that were put in last are tried first.
        value = program(rule((), "t", (), equal(A, C, D)), fact("q", D))
        goal = given([rule((), "t", (), ("some", A, equal(A, b(0), c("s", b(0)))))], atom("t"))
        self.assertEqual(self.refused(value, ((), goal), 1), ((), (), (("round", 0, 0),), ()))

    def test_example_4(self):
        self.refused(*EXAMPLES[4], 2, 3)

    def test_all_states_have_an_end(self):
        goal = both(("or", equal(A, X, C), equal(A, X, D)), both(atom("p", X), equal(A, X, c("e"))))
        paper = self.refused(program(rule((A,), "p", (b(0),))), (ONE_HOLE, goal), 1)
        self.assertEqual(len(paper), 6)
        self.assertIs(is_refusal(program(), (ONE_HOLE, goal), paper), False)
        self.assertIs(is_refusal(program(rule((A,), "p", (b(0),))), (ONE_HOLE, goal[1]), paper), False)

    def test_none(self):
        for value, question, most in (
            (program(), ((), TRUE), 5), (program(fact("t")), ((), atom("t")), 5), (LOOP, ((), atom("t")), 30),
            (program(), ((), atom("t")), 0), (program(), ((), ("or", atom("t"), TRUE)), 0),
            (program(), (ONE_HOLE, ("or", equal(A, C, D), equal(A, X, C))), 0), (GROWING, (ONE_HOLE, atom("p", X)), 4),
            (GROWING, (ONE_HOLE, atom("p", c("d"))), 0),
        ):
            with self.subTest(question=question):
                self.assertIsNone(refusal(value, question, most))
        self.assertEqual(len(refusal(GROWING, (ONE_HOLE, atom("p", c("d"))), 1)), 2)

    def test_answers_are_no_refusal(self):
        for goal in (TRUE, ("or", equal(A, C, D), TRUE), ("or", TRUE, equal(A, C, D))):
            self.assertIs(is_refusal(program(), ((), goal), ()), False)
            self.assertIs(is_refusal(program(), ((), goal), ((),)), False)

    def test_papers_of_any_length(self):
        # As long as there are rows, the judge goes on; then one is missing.
        for many in (0, 1, 100, 3000):
            self.assertIs(is_refusal(LOOP, ((), atom("t")), ((),) * many), False)
        self.assertIs(is_refusal(program(), ((), equal(A, C, D)), ((),) * 3000), False)

    def test_any_value(self):
        papers = list(JUNK) + [(1,), ((1,),), (("copy",),), ((("copy", 0, 0),),), ((("meet", 0),),), (("",),)]
        papers += [[], [()], {}]
        for value, question, most in (
            (program(), ((), equal(A, C, D)), 0), EXAMPLES[4] + (2,), EXAMPLES[1] + (0,),
            (program(), ((), atom("t")), 1),
        ):
            right = [paper for paper in papers if type(paper) is tuple and is_refusal(value, question, paper)]
            for paper in papers:
                self.assertIs(is_refusal(value, question, paper), paper in right and type(paper) is tuple)
            expected = height_words(value, question, 30)[1]
            for paper in right:
                self.assertEqual(len(paper), len(expected))
                self.assertTrue(all(follow(problem, told) == ("none",) for problem, told in zip(expected, paper)))

    def test_changed_papers(self):
        rng = random_numbers(94)
        seen = {True: 0, False: 0}
        right = 0
        for _ in range(500):
            value, question = any_case(rng, False)
            try:
                told, problems = height_words(value, question, 30)
                paper = refusal(value, question, 30)
            except (TooLarge, LimitError):
                continue
            self.assertEqual(paper is None, told != ((), "closed"))
            if paper is None:
                # The right rows for a search with answers are no refusal.
                if told[0]:
                    self.assertIs(is_refusal(value, question, tuple(row(problem) for problem in problems)), False)
                continue
            right += 1
            self.refused(value, question, 30, len(problems))
            for change in (twisted, alike, twisted, self.doubled, self.left_out):
                other = change(rng, paper)
                if type(other) is tuple:
                    good = len(other) == len(problems) and all(
                        follow(problem, part) is not None for problem, part in zip(problems, other))
                    self.assertIs(is_refusal(value, question, other), good)
                    seen[good] += 1
        self.assertGreater(right, 150)
        self.assertGreater(min(seen.values()), 60)

    def doubled(self, rng, paper):
        at = rng.randrange(len(paper) + 1)
        return paper[:at] + paper[at:at + 1] * 2 + paper[at + 1:]

    def left_out(self, rng, paper):
        at = rng.randrange(len(paper) + 1)
        return paper[:at] + paper[at + 1:]

    def test_holes_under_names(self):
        goal = every((A, A), ("some", AA, both(equal(A, h(0, b(2)), h(1, b(1))), atom("p", h(0, b(2))))))
        value = program(fact("p", c("s", C)), rule((A,), "p", (c("f", b(0), b(0)),), atom("q", b(0))))
        question = ((AA, AA), both(goal, equal(A, h(0, C), D)))
        paper = self.refused(value, question, 3)
        self.assertEqual(len(paper), 4)
        self.assertEqual(paper[1], (("copy", 0, 0), ("copy", 0, 0)))


if __name__ == "__main__":
    unittest.main()
