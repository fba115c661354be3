"""The interface, point 4, and what points 2 and 4 say of all functions."""

import inspect
import unittest

from lacuna import (
    cutting, derivations, desk, errors, filling, heights, levels, machine, matching, patterns, plain, proofterms, rules,
    terms, texts,
)

TERMS = {
    "is_type": ["value"],
    "is_signature": ["value"],
    "is_term": ["signature", "holes", "prefix", "kind", "value"],
    "long_binder": ["i", "kind"],
    "long_hole": ["k", "kind"],
    "lifted": ["term", "k"],
    "size": ["term"],
    "is_pattern": ["signature", "holes", "prefix", "kind", "term"],
}
FILLING = {
    "opened": ["term", "terms"],
    "fill": ["values", "term"],
    "compose": ["first", "second"],
    "unchanged": ["holes"],
    "is_filling": ["signature", "old", "new", "value"],
    "tidied": ["signature", "old", "new", "values"],
    "more_of": ["signature", "old", "new", "values", "others"],
}
PATTERNS = {
    "is_problem": ["value"],
    "simplified": ["signature", "holes", "equations"],
    "solves": ["problem", "new", "values"],
    "solve": ["problem"],
    "row": ["problem"],
    "follow": ["problem", "row"],
}
MATCHING = {
    "is_matching": ["value"],
    "match": ["problem"],
    "tree": ["problem"],
    "answers": ["problem", "tree"],
}
RULES = {
    "check_program": ["program"],
    "check_question": ["program", "question"],
    "open_goal": ["goal", "terms"],
    "open_rule": ["rule", "terms"],
    "fill_goal": ["values", "goal"],
    "lift_goal": ["goal", "k"],
    "lift_rule": ["rule", "k"],
}
DERIVATIONS = {
    "is_derivation": ["program", "question", "rows"],
    "height": ["rows"],
    "filled": ["rows", "filling"],
    "put": ["program", "question", "rows", "term"],
    "renumbered": ["rows", "first", "more"],
}
PLAIN = {
    "search": ["program", "question", "steps", "many"],
}
HEIGHTS = {
    "by_height": ["program", "question", "height"],
    "refusal": ["program", "question", "height"],
    "is_refusal": ["program", "question", "paper"],
}
LEVELS = {
    "raised": ["signature", "problem"],
    "solve_levels": ["signature", "problem"],
}
CUTTING = {
    "is_plain": ["goal"],
    "clauses": ["goal"],
    "rules_of": ["goal"],
    "goal_of": ["rule"],
    "cut": ["program", "middle", "goal", "first", "second"],
    "identity": ["program", "goal"],
}
PROOFTERMS = {
    "proof_types": ["program", "goal"],
    "to_terms": ["program", "goal", "rows"],
    "from_terms": ["program", "goal", "terms"],
}
TEXTS = {
    "read_type": ["text"],
    "write_type": ["kind"],
    "read_term": ["signature", "names", "prefix", "kind", "text"],
    "write_term": ["signature", "holes", "prefix", "kind", "term"],
    "read_program": ["text"],
    "write_program": ["program"],
    "read_question": ["program", "text"],
    "write_question": ["program", "question"],
}
PLAIN_ERRORS = ("LimitError", "BadForm", "BadName", "BadType", "HasMatch", "NotPattern")


class Interface(unittest.TestCase):
    def check(self, module, listed):
        for name, arguments in listed.items():
            with self.subTest(name=name):
                function = getattr(module, name)
                self.assertTrue(inspect.isfunction(function))
                self.assertEqual(list(inspect.signature(function).parameters), arguments)
                self.assertEqual(function.__module__, module.__name__)

    def test_terms(self):
        self.check(terms, TERMS)
        self.assertEqual((terms.MOST, terms.MOST_DEEP), (2000, 100))

    def test_filling(self):
        self.check(filling, FILLING)

    def test_patterns(self):
        self.check(patterns, PATTERNS)

    def test_matching(self):
        self.check(matching, MATCHING)
        self.assertEqual(matching.MOST_ANSWERS, 1000)

    def test_rules(self):
        self.check(rules, RULES)

    def check_class(self, module, name, arguments, methods):
        self.assertTrue(inspect.isclass(getattr(module, name)))
        self.assertEqual(getattr(module, name).__module__, module.__name__)
        self.assertEqual(list(inspect.signature(getattr(module, name)).parameters), arguments)
        for method, listed in methods.items():
            # Each method is defined in the class itself.
            function = vars(getattr(module, name))[method]
            self.assertTrue(inspect.isfunction(function))
            self.assertEqual(list(inspect.signature(function).parameters), ["self"] + listed)

    def test_derivations(self):
        self.check(derivations, DERIVATIONS)

    def test_searches(self):
        self.check(plain, PLAIN)
        self.check(heights, HEIGHTS)
        self.check(levels, LEVELS)
        self.check_class(machine, "Machine", ["program"], {"ask": ["question", "steps", "many"]})

    def test_derivations_and_texts(self):
        self.check(cutting, CUTTING)
        self.check(proofterms, PROOFTERMS)
        self.check(texts, TEXTS)
        self.check_class(desk, "Desk", [], {"take": ["text"], "program": []})


class Calls(unittest.TestCase):
    def test_no_answer_depends_on_earlier_calls(self):
        a = ((), "a")
        term, hole = (0, ("c", "c"), ()), (0, ("h", 0), ())
        signature = (("c", a), ("f", ((a, a), "a")), ("p", ((a,), "o")))
        function = ((a,), "a")
        two = (0, ("c", "f"), (term, term))
        problem = (signature, (function,), (((), a, (0, ("h", 0), (term,)), two),))
        program = (signature, (((a,), "p", ((0, ("b", 0), ()),), ("true",)),))
        question = ((a,), ("atom", "p", (hole,)))
        rows = (("use", 0, (hole,)), ("true",))
        refused = ((), ("equal", a, term, two))
        sides = (0, ("h", 0), ((0, ("n", 1), ()),)), (0, ("h", 1), ())
        leveled = ((a,), ((0, function), (1, a)), ((a,) + sides,))
        asking = machine.Machine(program)
        asked = (
            lambda: plain.search(program, question, 9, 9), lambda: asking.ask(question, 9, 9),
            lambda: heights.by_height(program, question, 3), lambda: heights.refusal(program, refused, 3),
            lambda: heights.is_refusal(program, refused, ((),)), lambda: levels.raised(signature, leveled),
            lambda: levels.solve_levels(signature, leveled), lambda: asking.ask(refused, 9, 9),
            lambda: patterns.solve(problem), lambda: patterns.row(problem), lambda: matching.match(problem),
            lambda: matching.tree(problem), lambda: matching.answers(problem, matching.tree(problem)),
            lambda: rules.check_program(program), lambda: rules.check_question(program, question),
            lambda: derivations.is_derivation(program, question, rows), lambda: derivations.filled(rows, (term,)),
        )
        told = [repr(ask()) for ask in asked]
        self.assertEqual([repr(ask()) for ask in reversed(asked)], told[::-1])

    def test_lists_are_new_ones(self):
        a = ((), "a")
        hole = (0, ("h", 0), ((0, ("c", "c"), ()),))
        problem = ((("c", a),), (((a,), "a"),), (((), a, hole, (0, ("c", "c"), ())),))
        tree = matching.tree(problem)
        for ask in (lambda: matching.match(problem), lambda: matching.answers(problem, tree)):
            told = ask()
            self.assertIs(type(told), list)
            self.assertEqual(len(told), 2)
            told.clear()
            self.assertEqual(len(ask()), 2)


class Errors(unittest.TestCase):
    def test_root(self):
        self.assertEqual(errors.LacunaError.__bases__, (ValueError,))

    def test_plain_errors(self):
        for name in PLAIN_ERRORS:
            with self.subTest(name=name):
                error = getattr(errors, name)
                self.assertEqual(error.__module__, "lacuna.errors")
                self.assertEqual(error.__bases__, (errors.LacunaError,))
                with self.assertRaises(ValueError):
                    raise error("why")
                with self.assertRaises(errors.LacunaError):
                    raise error()

    def test_fields(self):
        for error, field in ((errors.BadRule, "number"), (errors.TextError, "at")):
            for worth in (-1, 0, 7):
                with self.subTest(field=field, worth=worth):
                    self.assertEqual(error.__bases__, (errors.LacunaError,))
                    with self.assertRaises(ValueError) as caught:
                        raise error(worth)
                    self.assertEqual(getattr(caught.exception, field), worth)

    def test_no_error_is_another(self):
        names = PLAIN_ERRORS + ("BadRule", "TextError")
        self.assertEqual(len({getattr(errors, name) for name in names}), 8)


if __name__ == "__main__":
    unittest.main()
