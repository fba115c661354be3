"""Points 40 to 43: programs and questions of the class, and the errors of others."""

import unittest

from lacuna.errors import BadForm, BadName, BadRule, BadType, LacunaError
from lacuna.rules import check_program, check_question

from tests.formulas import (
    FORMULAS, JUNK, NO_MATCH, TAGS, TYPES, alike, class_goal, class_rule, program_due, question_due, replaced, spots,
    twisted,
)
from tests.samples import A, AA, B, C, D, FA, O, b, bound, c, chain, h, random_numbers

TRUE = ("true",)
ETA = (1, ("b", 1), (b(0),))        # the long form of the binder 0 of the type a -> a
FUNCTION = ((A, A), "a")


def atom(p, *parts):
    return ("atom", p, parts)


def rule(types, p, parts, body=TRUE):
    return (types, p, parts, body)


def program(*rules, signature=FORMULAS):
    return (signature, rules)


def fact(*parts, p="p", types=()):
    return rule(types, p, parts)


def error(check, *values):
    """What a check raises, as a pair of its name and its number; None if it returns None."""
    try:
        told = check(*values)
    except BadRule as caught:
        return ("BadRule", caught.number)
    except LacunaError as caught:
        return (type(caught).__name__, None)
    assert told is None
    return None


class Cases(unittest.TestCase):
    def program(self, told, *rules, signature=FORMULAS):
        number = None if told is None else (told, 0 if told == "BadRule" else None)
        for value in (program(*rules, signature=signature),):
            with self.subTest(rules=rules):
                self.assertEqual(error(check_program, value), number)
                self.assertIn(number, program_due(value) or (None,))

    def goal(self, told, goal, holes=(), signature=FORMULAS):
        """Also as the body of a rule, if there are no holes."""
        number = None if told is None else (told, -1 if told == "BadRule" else None)
        with self.subTest(goal=goal):
            self.assertEqual(error(check_question, program(signature=signature), (holes, goal)), number)
            self.assertIn(number, question_due(program(signature=signature), (holes, goal)) or (None,))
        if holes == ():
            self.program(told, rule((), "t", (), goal), signature=signature)


class Right(Cases):
    def test_programs(self):
        self.program(None)
        self.program(None, fact(C), fact(C), fact(chain(3)))
        self.program(None, signature=())
        self.program(None, rule((A, B), "q", (b(1), b(0)), ("and", atom("p", b(1)), atom("q", C, b(0)))))

    def test_goals(self):
        for goal in (
            TRUE, atom("t"), atom("p", C), ("and", TRUE, atom("t")), ("or", TRUE, TRUE), ("some", A, atom("p", b(0))),
            ("all", B, atom("q", C, b(0))), ("given", (fact(C),), TRUE),
            ("given", (fact(C), fact(chain(1))), atom("p", C)),
            ("equal", A, C, C), ("match", A, C, c("s", C)), ("equal", AA, bound(1, C), (1, ("b", 0), ())),
            ("all", A, ("some", A, ("equal", A, b(0), b(1)))),
            ("all", A, ("given", (fact(b(0)), rule((A,), "p", (b(0),), atom("p", b(1)))), atom("p", b(0)))),
            ("all", A, ("given", (rule((B,), "q", (b(1), b(0)), ("some", B, atom("q", b(2), b(0)))),), TRUE)),
        ):
            self.goal(None, goal)

    def test_holes(self):
        self.goal(None, atom("q", h(0), h(1)), (A, B))
        self.goal(None, ("all", A, atom("p", h(0, b(0)))), (AA,))
        self.goal(None, ("all", A, ("all", A, atom("p", h(0, b(0), b(1))))), (FUNCTION,))
        self.goal(None, atom("r", (1, ("h", 0), (b(0),)), C), (AA,))

    def test_example_of_point_47(self):
        t, e = ((), "t"), ((), "e")
        signature = (("lam", ((((t,), "t"),), "t")), ("app", ((t, t), "t")), ("arr", ((e, e), "e")),
                     ("of", ((t, e), "o")))
        arr = c("arr", b(1), b(0))
        of_lam = ((((t,), "t"), e, e), "of", (c("lam", (1, ("b", 3), (b(0),))), arr),
                  ("all", t, ("given", (((), "of", (b(0), b(2)), TRUE),), atom("of", b(3, b(0)), b(1)))))
        of_app = ((t, t, e, e), "of", (c("app", b(3), b(2)), b(0)), ("and", atom("of", b(3), arr),
                                                                     atom("of", b(2), b(1))))
        self.program(None, of_lam, of_app, signature=signature)
        # X is an open binder as a part of the open binder F.
        copy = ((AA, A), "p", (b(0),), ("equal", A, b(1, b(0)), b(0)))
        self.program("BadRule", copy)


class Form(Cases):
    def test_programs(self):
        for value in JUNK + (
            (FORMULAS,), (FORMULAS, (), ()), (FORMULAS, None), (FORMULAS, fact(C)), (None, ()),
            (FORMULAS + FORMULAS, ()),
            ((("c", "a"),), ()), ((("if", A),), ()), ((("c", ((O,), "a")),), ()), ((("p", ((O,), "o")),), ()),
            (FORMULAS, (None,)), (FORMULAS, ((),)), (FORMULAS, (fact(C)[:3],)), (FORMULAS, (fact(C) + (TRUE,),)),
        ):
            with self.subTest(value=value):
                self.assertEqual(error(check_program, value), ("BadForm", None) if value != ((), ()) else None)
                self.assertEqual(program_due(value), (("BadForm", None),) if value != ((), ()) else ())

    def test_rules(self):
        for wrong in (
            (None, "p", (C,), TRUE), (A, "p", (C,), TRUE), ((O,), "p", (C,), TRUE), ((None,), "p", (C,), TRUE),
            ((((O,), "a"),), "p", (C,), TRUE), (("a",), "p", (C,), TRUE), ((), None, (C,), TRUE), ((), 0, (C,), TRUE),
            ((), ("p",), (C,), TRUE), ((), "p", None, TRUE), ((), "p", C, TRUE), ((), "p", (None,), TRUE),
            ((), "p", (C,), None), ((), "p", (C,), ()), ((), "p", (C,), "true"),
        ):
            self.program("BadForm", wrong)
            self.program("BadForm", fact(C), wrong)
            self.goal("BadForm", ("given", (wrong,), TRUE))
            self.goal("BadForm", ("given", (fact(C), wrong), TRUE))

    def test_goals(self):
        for wrong in (
            None, True, 0, "true", (), ("True",), ("true", TRUE), (TRUE,), ("no", TRUE), (None,), (True,), (("true",),),
            ("atom",), ("atom", "p"), ("atom", "p", (C,), ()), ("atom", 1, (C,)), ("atom", "p", C), ("atom", "p", None),
            ("and", TRUE), ("and", TRUE, TRUE, TRUE), ("and", TRUE, None), ("or", None, TRUE), ("or", TRUE),
            ("some", TRUE), ("some", A), ("some", O, TRUE), ("some", "a", TRUE), ("some", None, TRUE),
            ("some", A, None),
            ("some", A, TRUE, TRUE), ("all", O, TRUE), ("all", ((O,), "a"), TRUE), ("all", (A,), TRUE), ("all", A, ()),
            ("given", (), TRUE), ("given", None, TRUE), ("given", fact(C), TRUE), ("given", (fact(C),)),
            ("given", (fact(C),), None), ("given", (fact(C),), TRUE, TRUE), ("given", (TRUE,), TRUE),
            ("equal", A, C), ("equal", C, C), ("equal", O, C, C), ("equal", None, C, C), ("equal", A, None, C),
            ("equal", A, C, None), ("equal", A, C, C, C), ("match", O, C, C), ("match", A, C), ("match", A, (), C),
        ):
            self.goal("BadForm", wrong)
            for more in (("and", wrong, TRUE), ("and", TRUE, wrong), ("or", wrong, TRUE), ("or", TRUE, wrong),
                         ("some", A, wrong), ("all", A, wrong), ("given", (fact(C),), wrong),
                         ("given", (rule((), "p", (C,), wrong),), TRUE)):
                self.assertEqual(error(check_question, program(), ((), more)), ("BadForm", None))

    def test_terms(self):
        for wrong in (
            None, (), C[:2], C + ((),), (-1, ("c", "c"), ()), (True, ("c", "c"), ()), (False, ("c", "c"), ()),
            (None, ("c", "c"), ()), ("0", ("c", "c"), ()), (0, ("c", "c"), None), (0, ("c", "c"), C), (0, "c", ()),
            (0, ("c", "c", 0), ()), (0, ("c",), ()), (0, ("c", 0), ()), (0, ("c", None), ()), (0, ("c", ("c",)), ()),
            (0, ("b", "c"), ()), (0, ("b", -1), ()), (0, ("b", True), ()), (0, ("b", None), ()), (0, ("h", -1), ()),
            (0, ("h", False), ()), (0, ("h", "0"), ()), (0, ("x", 0), ()), (0, (0, 0), ()), (0, None, ()), (0, (), ()),
            c("s", None), c("s", C[:2]), c("f", C, (0, ("b", True), ())), c("lam", (True, ("b", 0), ())),
        ):
            for goal in (atom("p", wrong), atom("q", C, wrong), ("equal", A, wrong, C), ("equal", A, C, wrong),
                         ("match", A, wrong, C), ("match", A, C, wrong)):
                self.goal("BadForm", goal)
            self.program("BadForm", fact(wrong))

    def test_questions(self):
        for value in JUNK + (
            ((),), ((), TRUE, ()), (None, TRUE), (A, TRUE), ((O,), TRUE), ((None,), TRUE), ((((O,), "a"),), TRUE),
            (TRUE, ()),
        ):
            with self.subTest(value=value):
                self.assertEqual(error(check_question, program(), value), ("BadForm", None))

    def test_what_has_the_form(self):
        # Any string may be the word of a constant or predicate, any number one of a binder or hole.
        for term in (c("nothing"), c("No name"), c(""), c("rule"), b(10 ** 30), h(10 ** 30), (10 ** 30, ("b", 7), ())):
            told = error(check_question, program(), ((), atom("p", term)))
            self.assertIn(told, (("BadName", None), ("BadType", None)))
        for p in ("", "No name", "if", "nothing"):
            self.goal("BadName", atom(p))
            self.program("BadName", rule((), p, ()))


class Names(Cases):
    def test_constants_and_predicates(self):
        for goal in (
            atom("no"), atom("no", C), atom("c"), atom("s", C), atom("p", c("no")), atom("p", c("no", C)),
            atom("p", c("t")),
            atom("p", c("p", C)), atom("p", c("s", c("t"))), ("equal", A, c("no"), C), ("equal", A, C, c("no")),
            ("match", A, c("t"), C), ("match", A, C, c("s", c("p", C))), ("equal", AA, bound(1, c("no")), bound(1, C)),
        ):
            self.goal("BadName", goal)

    def test_binders(self):
        for goal in (
            atom("p", b(0)), atom("p", c("lam", (1, ("b", 1), ()))), ("equal", AA, (1, ("b", 1), ()), bound(1, C)),
            ("some", A, atom("p", b(1))), ("all", A, ("all", A, atom("p", b(2)))),
            ("and", ("all", A, TRUE), atom("p", b(0))),
            ("all", A, ("given", (rule((A, A), "p", (b(3),)),), TRUE)),
            ("given", (rule((A, A), "p", (b(0),)),), atom("p", b(0))), ("given",
                                                                        (rule((A,), "p", (C,), atom("p", b(1))),),
                                                                        TRUE),
        ):
            self.goal("BadName", goal)
        self.program("BadName", rule((), "p", (b(0),)))
        self.program("BadName", rule((A, A), "p", (b(2),)))
        self.program(None, rule((A, A), "p", (b(1),)))
        self.program("BadName", rule((A, A), "p", (C,), ("all", A, atom("p", b(3)))))
        self.program(None, rule((A, A), "p", (C,), ("all", A, atom("p", b(2)))))

    def test_holes(self):
        self.goal("BadName", atom("p", h(0)))
        self.goal("BadName", atom("p", h(1)), (A,))
        self.goal(None, atom("p", h(1)), (B, A))
        self.goal("BadName", ("equal", A, c("s", h(2)), C), (A, A))
        self.program("BadName", fact(h(0)))
        self.program("BadName", fact(C), rule((A,), "p", (b(0),), ("equal", A, C, h(0))))


class Kinds(Cases):
    def test_parts(self):
        for goal in (
            atom("p", D), atom("q", D, C), atom("p"), atom("p", C, C), atom("t", C), atom("q", C), atom("r", C, C),
            atom("p", c("s", D)), atom("p", c("f", C)), atom("p", c("s")), atom("p", c("c", C)), atom("p", bound(1, C)),
            atom("p", c("lam", C)), atom("r", (2, ("c", "f"), (b(1), b(0))), C), atom("r", (1, ("c", "d"), ()), C),
            ("equal", A, C, D), ("equal", A, D, C), ("equal", B, C, C), ("equal", AA, C, C),
            ("match", A, bound(1, C), C),
            ("match", A, C, D), ("equal", AA, bound(1, C), C), ("all", B, atom("p", b(0))),
            ("some", B, atom("p", b(0))),
            ("all", AA, atom("p", b(0))), ("all", A, atom("p", b(0, C))), ("all", AA, atom("p", b(0, D))),
            ("given", (rule((A, B), "p", (b(0),)),), TRUE), ("given", (rule((A, B), "p", (b(1),), atom("p", b(0))),),
                                                             TRUE),
        ):
            self.goal("BadType", goal)
        self.program("BadType", rule((A, B), "p", (b(0),)))
        self.program("BadType", rule((A, B), "q", (b(0), b(1))))
        self.goal("BadType", atom("p", h(0)), (B,))
        self.goal("BadType", ("all", A, atom("p", h(0))), (AA,))

    def test_own_binders_that_are_too_many_or_few(self):
        self.goal("BadType", atom("p", (1, ("b", 0), ())))
        self.goal("BadType", atom("p", (7, ("b", 6), ())))
        self.goal("BadName", atom("p", (7, ("b", 7), ())))
        self.goal("BadName", atom("r", b(0), C))
        self.goal("BadType", ("all", A, atom("r", b(0), C)))


class Order(Cases):
    def test_form_ahead_of_all(self):
        form, name, kind = atom("p", None), atom("no"), atom("p", D)
        bad = ("some", AA, ("some", A, atom("p", b(1, b(0)))))
        for wrong in (name, kind, bad):
            for goal in (("and", form, wrong), ("and", wrong, form)):
                self.goal("BadForm", goal)
            value = program(rule((), "t", (), wrong), rule((), "t", (), form))
            self.assertEqual(error(check_program, value), ("BadForm", None))
            self.assertEqual(error(check_program, value[:1] + (value[1][::-1],)), ("BadForm", None))
            self.assertEqual(error(check_question, program(), (None, wrong)), ("BadForm", None))
            value = program(rule((), "t", (), wrong), signature=FORMULAS + (("c", A),))
            self.assertEqual(error(check_program, value), ("BadForm", None))

    def test_names_and_types_ahead_of_the_class(self):
        bad = ("some", AA, ("some", A, atom("p", b(1, b(0)))))
        for word, wrong in (("BadName", atom("no")), ("BadName", atom("p", b(0))), ("BadType", atom("p", D))):
            self.goal(word, ("and", bad, wrong))
            self.goal(word, ("and", wrong, bad))
            value = program(rule((), "t", (), bad), rule((), "t", (), wrong))
            self.assertEqual(error(check_program, value), (word, None))
            self.assertEqual(error(check_program, value[:1] + (value[1][::-1],)), (word, None))
        # A match that may not be there counts last, too.
        value = program(rule((), "t", (), ("match", A, C, C)), rule((), "t", (), atom("p", D)), signature=NO_MATCH)
        self.assertEqual(error(check_program, value), ("BadType", None))

    def test_no_type_is_looked_at_where_a_name_is_wrong(self):
        for goal in (
            atom("p", c("s", c("no"))), atom("p", c("f", c("no"))), atom("p", c("k", (2, ("c", "no"), ()), C)),
            atom("p", bound(1, c("no"))), atom("p", c("s", C, c("no"))), ("equal", B, c("s", c("no")), D),
            atom("p", c("t")),
            ("equal", A, bound(1, b(1)), C),
        ):
            self.assertIn(error(check_question, program(), ((), goal)), (("BadName", None),))

    def test_number_of_the_rule(self):
        bad = rule((AA, A), "p", (b(1, b(0)),))
        for at in range(4):
            rules = [fact(C)] * at + [bad] + [fact(C)] * 2 + [bad]
            self.assertEqual(error(check_program, program(*rules)), ("BadRule", at))
        inner = rule((), "t", (), ("all", A, ("given", (fact(C), bad), TRUE)))
        self.assertEqual(error(check_program, program(fact(C), inner, bad)), ("BadRule", 1))
        self.assertEqual(error(check_question, program(), ((), ("given", (fact(C), bad), TRUE))), ("BadRule", -1))

    def test_fields(self):
        with self.assertRaises(BadRule) as caught:
            check_program(program(fact(C), rule((AA, A), "p", (b(1, b(0)),))))
        self.assertEqual(caught.exception.number, 1)
        with self.assertRaises(BadRule) as caught:
            check_question(program(), ((), ("some", AA, atom("p", b(0, C)))))
        self.assertEqual(caught.exception.number, -1)
        for error_class, goal in ((BadForm, None), (BadName, atom("no")), (BadType, atom("p", D))):
            with self.assertRaises(error_class):
                check_question(program(), ((), goal))


class Class(Cases):
    def some(self, told, *goals, kind=AA):
        """Goals in which the binder ahead of them is an open one: of a some, or a variable of a rule."""
        for goal in goals:
            self.goal(told, ("some", kind, goal))
            self.program(told, rule((kind,), "t", (), goal))
            self.goal(told, ("given", (rule((kind,), "t", (), goal),), TRUE))

    def test_parts_of_open_binders(self):
        self.some(None, ("all", A, atom("p", b(1, b(0)))), atom("r", (1, ("b", 1), (b(0),)), C),
                  ("all", A, ("all", B, ("equal", A, b(2, b(1)), c("s", b(2, b(1)))))),
                  atom("p", c("lam", (1, ("b", 1), (b(0),)))))
        # A constant, an open binder, one with parts, or another term as a part.
        self.some("BadRule", atom("p", b(0, C)), ("all", A, atom("p", b(1, c("s", b(0))))),
                  ("some", A, atom("p", b(1, b(0)))),
                  ("all", A, atom("p", b(1, b(1, b(0))))), ("all", AA, atom("p", b(1, b(0, C)))),
                  ("equal", A, C, b(0, C)),
                  ("all", A, ("given", (rule((A,), "p", (b(2, b(0)),)),), TRUE)),
                  ("given", (rule((), "p", (b(0, C),)),), TRUE), ("given", (rule((), "t", (), atom("p", b(0, C))),),
                                                                  TRUE))

    def test_closed_binders_outside_of_the_scope(self):
        for kind in (AA,):
            self.goal("BadRule", ("all", A, ("some", kind, atom("p", b(0, b(1))))))
            self.goal("BadRule", ("all", A, ("all", A, ("some", kind, atom("p", b(0, b(1)))))))
            self.goal("BadRule", ("all", A, ("given", (rule((kind,), "p", (b(0, b(1)),)),), TRUE)))
            self.goal("BadRule", ("all", A, ("given", (rule((kind,), "p", (C,), atom("p", b(0, b(1)))),), TRUE)))
        self.goal(None, ("all", A, ("some", AA, ("all", A, atom("p", b(1, b(0)))))))
        self.goal("BadRule", ("all", A, ("some", AA, ("all", A, atom("p", b(1, b(2)))))))

    def test_different_ones(self):
        both = ("all", A, ("all", A, atom("p", b(2, b(0), b(1)))))
        self.some(None, both, ("all", A, ("all", A, atom("p", b(2, b(1), b(0))))), kind=FUNCTION)
        self.some("BadRule", ("all", A, ("all", A, atom("p", b(2, b(0), b(0))))),
                  ("all", A, atom("p", b(1, b(0), b(0)))),
                  kind=FUNCTION)

    def test_long_forms_of_functions(self):
        of_function = ((AA,), "a")
        self.some(None, ("all", AA, atom("p", b(1, ETA))), kind=of_function)
        self.some("BadRule", ("all", AA, atom("p", b(1, (1, ("c", "s"), (b(0),))))),
                  ("all", AA, atom("p", b(1, bound(1, C)))),
                  ("all", AA, atom("p", b(1, (1, ("b", 0), ())))), ("all", AA,
                                                                    atom("p", b(1, (1, ("b", 1), (b(1, b(0)),))))),
                  ("all", AA, ("all", A, atom("p", b(2, (1, ("b", 2), (b(1),)))))), ("some", AA, atom("p", b(1, ETA))),
                  kind=of_function)

    def test_closed_binders_have_any_parts(self):
        self.goal(None, ("all", AA, atom("p", b(0, C))))
        self.goal(None, ("all", AA, ("some", A, atom("p", b(1, b(1, b(0)))))))
        self.goal(None, ("all", FUNCTION, ("all", A, atom("p", b(1, b(0), b(0))))))
        self.goal(None, ("equal", FA, (1, ("b", 0), (C,)), (1, ("b", 0), (b(0, C),))))
        self.goal(None, ("all", FA, atom("p", b(0, bound(1, C)))))

    def test_holes(self):
        for goal in (("all", A, atom("p", h(0, b(0)))), atom("r", (1, ("h", 0), (b(0),)), C)):
            self.goal(None, goal, (AA, A))
        for goal in (atom("p", h(0, C)), ("all", A, atom("p", h(0, c("s", b(0))))), atom("p", h(0, h(1))),
                     ("some", A, atom("p", h(0, b(0)))), ("given", (rule((A,), "p", (h(0, b(0)),)),), TRUE)):
            self.goal("BadRule", goal, (AA, A))
        self.goal(None, ("all", A, ("all", A, atom("p", h(0, b(0), b(1))))), (FUNCTION,))
        self.goal("BadRule", ("all", A, atom("p", h(0, b(0), b(0)))), (FUNCTION,))
        self.goal(None, ("all", AA, atom("p", h(0, ETA))), (((AA,), "a"),))
        self.goal("BadRule", atom("p", h(0, (1, ("c", "s"), (b(0),)))), (((AA,), "a"),))

    def test_first_term_of_a_match(self):
        # Any terms may be parts there, of binders and holes whose parts have types without arguments.
        for term in (b(0, C), b(0, c("s", C)), b(0, b(0, C)), c("s", b(0, b(0, b(0, C)))),
                     b(0, c("lam", (1, ("b", 1), (C,))))):
            self.some(None, ("match", A, term, C))
            self.some("BadRule", ("match", A, C, term), ("equal", A, term, C), ("equal", A, C, term),
                      ("and", ("match", A, term, C), atom("p", term)))
        self.some(None, ("some", A, ("match", A, b(1, b(0)), b(0))), ("all", A, ("match", A, C, b(1, b(0)))))
        self.some("BadRule", ("some", A, ("match", A, b(1, b(0)), b(1, b(0)))))
        for term in (h(0, C), h(0, h(0, h(1))), c("s", h(0, c("s", h(1))))):
            self.goal(None, ("match", A, term, C), (AA, A))
            self.goal("BadRule", ("match", A, C, term), (AA, A))
        self.some(None, ("match", AA, (1, ("b", 1), (C,)), bound(1, C)))
        # The outside of the scope plays no part there.
        self.goal(None, ("all", A, ("some", AA, ("match", A, b(0, b(1)), C))))

    def test_first_term_of_a_match_with_functions_as_parts(self):
        of_function = ((AA,), "a")
        term = (1, ("c", "s"), (b(0),))
        self.some("BadRule", ("match", A, b(0, term), C), kind=of_function)
        self.some(None, ("all", AA, ("match", A, b(1, ETA), C)), kind=of_function)
        self.goal("BadRule", ("match", A, h(0, term), C), (of_function,))
        self.goal("BadRule", ("match", A, h(1, h(0, term)), C), (of_function, AA))
        self.goal(None, ("all", AA, ("match", A, h(1, h(0, ETA)), C)), (of_function, AA))
        mixed = ((A, AA), "a")
        self.some("BadRule", ("all", AA, ("match", A, b(1, C, ETA), C)), kind=mixed)
        self.some(None, ("all", AA, ("all", A, ("match", A, b(2, b(0), (1, ("b", 2), (b(0),))), C))), kind=mixed)

    def test_constants_beside_a_match(self):
        goal = ("match", A, C, C)
        self.goal(None, goal)
        self.goal("BadRule", goal, signature=NO_MATCH)
        for around in (("and", TRUE, goal), ("or", goal, TRUE), ("some", A, goal), ("all", A, goal),
                       ("given", (fact(C),), goal),
                       ("given", (rule((), "t", (), goal),), TRUE)):
            self.goal(None, around)
            self.goal("BadRule", around, signature=NO_MATCH)
        self.goal(None, ("equal", A, C, C), signature=NO_MATCH)
        value = program(fact(C), rule((), "t", (), goal), fact(C), signature=NO_MATCH)
        self.assertEqual(error(check_program, value), ("BadRule", 1))
        # A predicate may have any arguments.
        self.goal(None, goal, signature=FORMULAS + (("any", ((((FA,), "a"),), "o")),))

    def test_shadowing(self):
        # What counts is which binder it is, not what its name could be.
        self.goal(None, ("some", A, ("some", AA, ("all", A, ("and", atom("p", b(1, b(0))), atom("p", b(2)))))))
        self.goal("BadRule", ("some", A, ("some", AA, ("all", A, atom("p", b(1, b(2)))))))


class Any(unittest.TestCase):
    def check(self, check, due, value):
        told = error(check, value)
        self.assertTrue(told in due if due else told is None, (told, due, value))
        return told[0] if told else "right"

    def test_any(self):
        rng = random_numbers(50)
        seen = {}
        for _ in range(150):
            signature, tags = rng.choice(((FORMULAS, TAGS), (NO_MATCH, tuple(tag for tag in TAGS if tag != "match"))))
            rules = tuple(class_rule(rng, signature, (), rng.randrange(4), (), tags) for _ in range(rng.randrange(3)))
            value = (signature, rules)
            self.assertEqual(error(check_program, value), None)
            holes = tuple(rng.choice(TYPES) for _ in range(rng.randrange(3)))
            question = (holes, class_goal(rng, signature, (), rng.randrange(5), holes, tags))
            self.assertEqual(error(check_question, value, question), None)
            for change in (alike, alike, alike, twisted):
                other = change(rng, value)
                word = self.check(check_program, program_due(other), other)
                seen[word] = seen.get(word, 0) + 1
                other = change(rng, question)
                word = self.check(lambda told: check_question(value, told), question_due(value, other), other)
                seen[word] = seen.get(word, 0) + 1
        for word in ("right", "BadForm", "BadName", "BadType", "BadRule"):
            self.assertGreater(seen[word], 3)

    def test_loose_goals(self):
        # Open binders have parts as they come: some goals are of the class, some are not.
        rng = random_numbers(51)
        seen = {}
        for _ in range(400):
            signature = rng.choice((FORMULAS, FORMULAS, NO_MATCH))
            binders = tuple((rng.choice(TYPES), False) for _ in range(2))
            inner = class_goal(rng, signature, binders, rng.randrange(4), (AA,), TAGS)
            words = [rng.choice(("some", "all")) for _ in range(2)]
            goal = (words[0], binders[0][0], (words[1], binders[1][0], inner))
            due = question_due((signature, ()), ((AA,), goal))
            word = self.check(lambda told: check_question((signature, ()), told), due, ((AA,), goal))
            seen[word] = seen.get(word, 0) + 1
        self.assertGreater(min(seen["right"], seen["BadRule"]), 50)
        self.assertEqual(len(seen), 2)

    def test_each_part_replaced(self):
        body = ("all", A, ("given", (rule((B,), "q", (b(1), b(0))),), ("or", ("equal", A, b(1), C),
                                                                       ("match", A, b(0), b(0)))))
        value = ((("c", A), ("p", ((A,), "o")), ("q", ((A, B), "o"))), (rule((A,), "p", (b(0),), body),))
        self.assertEqual(error(check_program, value), None)
        for path in spots(value):
            for junk in JUNK:
                other = replaced(value, path, junk)
                self.check(check_program, program_due(other), other)


if __name__ == "__main__":
    unittest.main()
