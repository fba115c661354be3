"""Points 1, 2 and 4 over the whole program."""

import inspect
import unittest
from pathlib import Path

from lacuna import errors
from lacuna.cutting import clauses, cut, goal_of, identity, is_plain, rules_of
from lacuna.derivations import is_derivation
from lacuna.desk import Desk
from lacuna.errors import (
    BadForm, BadName, BadRule, BadType, HasMatch, LacunaError, LimitError, NotPattern, TextError,
)
from lacuna.filling import fill
from lacuna.heights import by_height, is_refusal, refusal
from lacuna.levels import raised, solve_levels
from lacuna.machine import Machine
from lacuna.matching import match
from lacuna.patterns import solve
from lacuna.plain import search
from lacuna.proofterms import from_terms, proof_types, to_terms
from lacuna.rules import check_program, check_question, fill_goal
from lacuna.texts import (
    read_program, read_question, read_term, read_type, write_program, write_question, write_term, write_type,
)

from tests.programs import CASES, PLUS, SMALL, TRUE, TYPING, atom, fact, given, matched, number, rule
from tests.samples import A, AA, C, b, bush, c, h, is_plain_data

KINDS = (LimitError, BadForm, BadName, BadType, BadRule, HasMatch, NotPattern, TextError)
X = h(0)


class Errors(unittest.TestCase):
    def raised_by(self, ask):
        with self.assertRaises(LacunaError) as caught:
            ask()
        error = caught.exception
        self.assertIsInstance(error, ValueError)
        # It is of just one of the classes, and of no class below it.
        self.assertEqual([kind for kind in KINDS if isinstance(error, kind)], [type(error)])
        return type(error)

    def test_each_one(self):
        program = (SMALL, ())
        for ask, kind in (
            (lambda: fill((bush(1999),), c("f", X, X)), LimitError), (lambda: check_program(None), BadForm),
            (lambda: check_question(program, ((), atom("z"))), BadName),
            (lambda: check_question(program, ((), atom("p"))), BadType),
            (lambda: check_program((SMALL, (fact("t"), rule((AA,), "p", (b(0, C),))))), BadRule),
            (lambda: by_height(program, ((), matched(A, C, C)), 1), HasMatch),
            (lambda: refusal(program, ((), matched(A, C, C)), 1), HasMatch),
            (lambda: is_refusal(program, ((), matched(A, C, C)), 1), HasMatch),
            (lambda: solve_levels(SMALL, ((), ((0, AA),), ((A, h(0, C), C),))), NotPattern),
            (lambda: read_type("a ->"), TextError), (lambda: read_term(SMALL, ((), ()), (), A, "z"), TextError),
            (lambda: read_program("con"), TextError), (lambda: read_question(program, "ask"), TextError),
        ):
            self.assertEqual(self.raised_by(ask), kind)

    def test_there_are_no_others(self):
        found = {value for _, value in inspect.getmembers(errors, inspect.isclass)}
        self.assertEqual(found, {LacunaError, *KINDS})
        for kind in KINDS:
            self.assertEqual(kind.__bases__, (LacunaError,))
        # No other file of the package makes errors of its own.
        for path in (Path(errors.__file__).parent).glob("*.py"):
            if path.name != "errors.py":
                self.assertNotIn("Error)", path.read_text().replace("except ", ""), path.name)


class Returned(unittest.TestCase):
    def test_lists_are_new_ones(self):
        problem = (SMALL, (AA,), (((), A, h(0, C), C),))
        first = match(problem)
        kept = repr(first)
        first.reverse()
        first.append(None)
        self.assertEqual(repr(match(problem)), kept)
        desk = Desk()
        desk.take(write_program(PLUS))
        asked = "ask [x : a] plus x x (s (s z)) height 5;"
        first = desk.take(asked)
        self.assertEqual(first, ["1: x = s z", "closed"])
        first.clear()
        self.assertEqual(desk.take(asked), ["1: x = s z", "closed"])
        empty = desk.take("")
        empty.append("1: yes")
        self.assertEqual(desk.take(""), [])

    def test_plain_data(self):
        middle = given([rule((), "p", (C,), ("all", A, atom("q", b(0))))], atom("p", C))
        program = (SMALL, ())
        rows = identity(program, middle)
        longer = (SMALL, rules_of(middle))
        leveled = ((A,), ((1, A),), ((A, X, c("s", (0, ("n", 1), ()))),))
        question = ((A, A), atom("plus", X, h(1), number(2)))
        for told in (
            clauses(middle), rules_of(middle), goal_of(rules_of(middle)[0]), is_plain(middle), rows,
            cut(longer, middle, middle, rows[1:], identity(longer, middle)), proof_types(longer, middle),
            to_terms(longer, middle, rows[1:]), from_terms(longer, middle, to_terms(longer, middle, rows[1:])),
            raised(SMALL, leveled), solve_levels(SMALL, leveled), search(PLUS, question, 50, 9),
            Machine(PLUS).ask(question, 50, 9),
            by_height(PLUS, question, 5), refusal(PLUS, ((), atom("plus", number(1), number(0), number(0))), 2),
            is_refusal(PLUS, question, ()), read_type("a -> b"), write_type(AA),
            read_term(SMALL, (("x",), (("y", A),)), (A,), A, "f x y"),
            write_term(SMALL, (A,), (A,), A, c("f", X, b(0))),
            read_program(write_program(TYPING)), write_program(TYPING),
            read_question(PLUS, write_question(PLUS, question)),
            write_question(PLUS, question), Desk().program(), tuple(Desk().take("con c : a; ask true height 1; x;")),
            solve((SMALL, (A,), (((), A, X, C),))),
        ):
            self.assertTrue(is_plain_data(told), told)

    def test_arguments_are_unchanged(self):
        middle = given([fact("p", C)], atom("t"))
        program = (SMALL, (fact("t"),))
        first = (("given",), ("use", 0, ()), TRUE)
        values = [program, middle, first]
        kept = repr(values)
        cut(program, middle, middle, first, identity(program, middle))
        to_terms(program, middle, first)
        proof_types(program, middle)
        identity(program, middle)
        write_program(program)
        self.assertEqual(repr(values), kept)


class NoAnswerDependsOnEarlierOnes(unittest.TestCase):
    def test_mixed_calls(self):
        asks = []
        for value, question in CASES[:12]:
            machine = Machine(value)
            asks.append(lambda value=value, question=question: search(value, question, 40, 3))
            asks.append(lambda machine=machine, question=question: machine.ask(question, 40, 3))
            asks.append(lambda value=value, question=question: write_question(value, question))
            asks.append(lambda value=value: read_program(write_program(value)))
        told = [repr(ask()) for ask in asks]
        self.assertEqual([repr(ask()) for ask in reversed(asks)], told[::-1])
        self.assertEqual([repr(ask()) for ask in asks], told)


class Together(unittest.TestCase):
    def test_from_a_text_to_terms(self):
        # A derivation that is found is written as a term, put into another one, and read back.
        program = read_program("con c : a; con p : a -> o; con q : a -> o; con t : o; rule p c;"
                               "rule [x : a] q x if p x; rule t if all x : a. given (p x). q x;")
        goal = read_question(program, "ask t;")[1]
        (_, _, rows), = search(program, ((), goal), 50, 1)[0]
        self.assertIs(is_derivation(program, ((), goal), rows), True)
        terms = to_terms(program, goal, rows)
        self.assertEqual(terms, (b(0, (2, ("b", 3), (b(1), b(0)))),))
        self.assertEqual(from_terms(program, goal, terms), rows)
        self.assertEqual(cut(program, goal, goal, rows, identity(program, goal)), rows)
        desk = Desk()
        desk.take(write_program(program))
        self.assertEqual(desk.take("ask t steps 50 many 1; ask t height 3; ask [x : a] q x steps 9 many 9;"),
                         ["1: yes", "many after 6", "1: yes", "closed", "1: x = c", "closed after 3"])

    def test_the_typing_of_terms(self):
        desk = Desk()
        desk.take(write_program(TYPING))
        self.assertEqual(
            desk.take("ask [x : e] of (lam (y. lam (z. app y z))) x steps 100 many 9;"
                      "ask [x : e] of (lam (y. app y y)) x steps 100 many 9;"),
            ["1: x = arr (arr a b) (arr a b) for a : e, b : e", "closed after 12", "closed after 8"])

    def test_told_answers_are_derivations(self):
        for value, question in CASES:
            for types, values, rows in Machine(value).ask(question, 20, 3)[0]:
                self.assertIs(is_derivation(value, (types, fill_goal(values, question[1])), rows), True)


if __name__ == "__main__":
    unittest.main()
