"""How the answers of a search are told, and the matchings on its way (points 51 and 54)."""

from lacuna.derivations import changed_row
from lacuna.filling import tidy_kinds, tidy_orders, tidy_term
from lacuna.states import holes_in
from lacuna.terms import MOST_DEEP, depth, takes_sorts


def terms_of(rows):
    """The terms of the rows of a derivation, in order."""
    found = []
    for row in rows:
        if row[0] == "some":
            found.append(row[1])
        elif row[0] == "use":
            found.extend(row[2])
    return found


def tidy_answer(values, rows, kinds):
    """The types, the values and the rows of an answer, tidy, or None if a term of it is too deep.

    The types of the holes are those that kinds has under their numbers.
    """
    terms = values + terms_of(rows)
    if max([depth(term) for term in terms], default=0) > MOST_DEEP:
        return None
    orders = tidy_orders(terms)
    told = tuple([changed_row(row, lambda term, d: tidy_term(term, orders), 0) for row in rows])
    return tidy_kinds(kinds, orders), tuple([tidy_term(value, orders) for value in values]), told


class Matching:
    """A matching on the way of a search: its problem, and for each of its holes the hole it is in the search.

    Each is told as a pair of its number in the search and the order of its arguments there.
    """

    def __init__(self, problem, holes):
        self.problem = problem
        self.holes = holes


def is_stuck(kinds, left, right):
    """Whether the two terms of a match cannot be matched."""
    if holes_in((right,)):
        return True
    return not all([takes_sorts(kinds[hole]) for hole in holes_in((left,))])


def matching_of(signature, kinds, equation, terms):
    """The matching for an equation of point 20, where terms are those of the values and rows so far, in order."""
    prefix, kind, left, right = equation
    orders = tidy_orders(terms)
    there = holes_in((left,))
    orders = {hole: orders[hole] for hole in orders if hole in there}
    told = (prefix, kind, tidy_term(left, orders), right)
    return Matching((signature, tidy_kinds(kinds, orders), (told,)), list(orders.items()))


def searched(run, steps, many):
    """The answers, the end, and the number of steps of a search with so many steps and wanted answers.

    The run has the methods end and take, and the list answers, as that of searching.py.
    """
    used = 0
    while True:
        end = run.end(many)
        if end is None and used == steps:
            end = "steps"
        if end is not None:
            return tuple(run.answers), end, used
        used += 1
        if not run.take():
            return tuple(run.answers), "stuck", used
