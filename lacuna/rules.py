"""Programs and questions: whether they are of the class, and opening, filling and lifting them (points 40 to 44)."""

from lacuna.classes import are_of_class, has_names, has_types
from lacuna.errors import BadForm, BadName, BadRule, BadType
from lacuna.filling import fill, opened_under
from lacuna.forms import has_program_form, has_question_form
from lacuna.goals import changed_goal, changed_rule, changed_terms, sites
from lacuna.terms import lifted_under


def check_sites(signature, holes, found):
    """BadName or BadType if one of these is due at one of the sites."""
    constants = dict(signature)
    if not all([has_names(constants, holes, site) for site in found]):
        raise BadName("something that is named is not there")
    if not all([has_types(signature, holes, site) for site in found]):
        raise BadType("something does not have the type that is needed")


def check_program(program):
    """None for any value that is a program of the class; otherwise the first error that is due."""
    if not has_program_form(program):
        raise BadForm("no program")
    signature, rules = program
    rows = [sites(rule, True) for rule in rules]
    check_sites(signature, (), [site for found in rows for site in found])
    for number, found in enumerate(rows):
        if not are_of_class(signature, (), found):
            raise BadRule(number)


def check_question(program, question):
    """None for any value that is a question of the class to the program; otherwise the first error that is due."""
    if not has_question_form(question):
        raise BadForm("no question")
    signature = program[0]
    holes, goal = question
    found = sites(goal, False)
    check_sites(signature, holes, found)
    if not are_of_class(signature, holes, found):
        raise BadRule(-1)


def opening(terms):
    """What becomes of a term in a goal or rule when its last names are opened with the terms."""
    return lambda term, d: opened_under(term, terms, d)[0]


def open_goal(goal, terms):
    """The goal opened with a tuple of terms."""
    return changed_goal(goal, opening(terms), 0)


def open_rule(rule, terms):
    """The pair of the rule's head, as an atom, and of its body, both opened with a tuple of terms."""
    _, p, parts, body = rule
    return ("atom", p, changed_terms(parts, opening(terms), 0)), open_goal(body, terms)


def fill_goal(values, goal):
    """The goal in which the holes are filled with the values."""
    return changed_goal(goal, lambda term, d: fill(values, term), 0)


def lift_goal(goal, k):
    """The goal lifted by k."""
    return changed_goal(goal, lambda term, d: lifted_under(term, k, d), 0)


def lift_rule(rule, k):
    """The rule lifted by k."""
    return changed_rule(rule, lambda term, d: lifted_under(term, k, d), 0)
