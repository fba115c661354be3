"""Simplifying equations, and the states that filling holes goes through (points 20 to 22)."""

from lacuna.closures import term_under
from lacuna.errors import LimitError
from lacuna.filling import tidy_kinds, tidy_orders, tidy_term, unchanged
from lacuna.terms import MOST, MOST_DEEP, depth, has_pattern_form, head_kind, is_same, long_binder, long_head
from lacuna.terms import long_row, places, size


def is_hole(term):
    """Whether the head of a term is a hole."""
    return term[1][0] == "h"


def holes_in(terms):
    """A dict of the numbers of the holes in the terms."""
    nodes = [node for term in terms for node, _ in places(term)]
    return {node[1][1]: True for node in nodes if is_hole(node)}


def has_any(holes, values):
    """Whether one of the holes is among those that are filled."""
    return any([hole in holes for hole in values])


class Equation:
    """An equation of a simplified list; in hand if it is to be taken ahead of others."""

    def __init__(self, prefix, kind, sides, hand):
        self.prefix = prefix
        self.kind = kind
        self.sides = sides
        self.hand = hand
        self.nodes = size(sides[0]) + size(sides[1])
        self.holes = holes_in(sides)
        self.known = None

    def patterns(self):
        """Whether both sides are patterns."""
        # Matching never asks this, and solving asks it again and again.
        if self.known is None:
            self.known = has_pattern_form(self.sides[0]) and has_pattern_form(self.sides[1])
        return self.known

    def told(self):
        """The equation as point 20 has it."""
        return self.prefix, self.kind, self.sides[0], self.sides[1]


class Value:
    """A value of a state's filling."""

    def __init__(self, term, nodes):
        self.term = term
        self.nodes = nodes
        self.holes = holes_in((term,))


class State:
    """The types of the holes, the filling as a list of values, and the list of equations, which is None at a clash."""

    def __init__(self, constants, holes, filling, equations):
        self.constants = constants
        self.holes = holes
        self.filling = filling
        self.equations = equations


class Budget:
    """How many nodes a state may still have."""

    def __init__(self, most):
        self.rest = most

    def spend(self, nodes):
        """Count so many nodes."""
        self.rest -= nodes
        if self.rest < 0:
            raise LimitError("a state has too many nodes")


def simplified_rows(constants, equation, hand):
    """The list of the equations that come of simplifying an equation of point 20, or None at a clash."""
    found = []
    todo = [equation]
    while todo:
        prefix, (arguments, sort), left, right = todo.pop()
        prefix = prefix + arguments
        sides = ((0, left[1], left[2]), (0, right[1], right[2]))
        if is_hole(left) or is_hole(right):
            if not is_same(left, right):
                found.append(Equation(prefix, ((), sort), sides, hand))
        elif left[1] != right[1]:
            return None
        else:
            # Equal sides come to nothing in this way, too.
            needed = head_kind(constants, (), prefix, left[1])[0]
            rows = [(prefix, needed[j], left[2][j], right[2][j]) for j in range(len(needed))]
            todo.extend(list(reversed(rows)))
    return found


def simplified_list(constants, equations):
    """The simplified list of equations of point 20, none of them in hand, or None at a clash."""
    found = []
    for equation in equations:
        rows = simplified_rows(constants, equation, False)
        if rows is None:
            return None
        found.extend(rows)
    return found


def first_state(problem):
    """The state that a problem begins with."""
    signature, holes, equations = problem
    constants = dict(signature)
    filling = [Value(term, size(term)) for term in unchanged(holes)]
    return State(constants, holes, filling, simplified_list(constants, equations))


def next_value(value, values, budget):
    """The value of a filling when the holes are filled."""
    if not has_any(value.holes, values):
        budget.spend(value.nodes)
        return value
    term, nodes = term_under(value.term, (), 0, values, budget.rest)
    budget.spend(nodes)
    return Value(term, nodes)


def filled_sides(equation, values, budget):
    """Both sides when the holes are filled."""
    sides = []
    for side in equation.sides:
        term, nodes = term_under(side, (), 0, values, budget.rest)
        budget.spend(nodes)
        sides.append(term)
    return sides


def next_equations(state, values, taken, budget):
    """The simplified list when the holes are filled, or None at a clash; what comes of the one taken is in hand."""
    found = []
    for k, equation in enumerate(state.equations):
        if not has_any(equation.holes, values):
            budget.spend(equation.nodes)
            found.append(equation)
            continue
        left, right = filled_sides(equation, values, budget)
        hand = equation.hand or k == taken
        rows = simplified_rows(state.constants, (equation.prefix, equation.kind, left, right), hand)
        if rows is None:
            return None
        found.extend(rows)
    return found


def next_state(state, filler, taken, most):
    """The state behind filling holes; LimitError if values and filled equations have more than most nodes together.

    The filler is a pair of a dict that tells what holes are filled with, and of the types of the new holes; taken is
    the number of the equation that is to come in hand.
    """
    values, kinds = filler
    budget = Budget(most)
    filling = [next_value(value, values, budget) for value in state.filling]
    equations = next_equations(state, values, taken, budget)
    return State(state.constants, state.holes + kinds, filling, equations)


def copying(state, hole, head, needed):
    """The filler that gives the hole a head, as told below its own binders, which needs parts of these types."""
    own = state.holes[hole][0]
    parts = []
    kinds = []
    for inner, sort in needed:
        binders = own + inner
        parts.append((len(inner), ("h", len(state.holes) + len(kinds)), long_row(binders)))
        kinds.append((binders, sort))
    return {hole: (len(own), head, tuple(parts))}, tuple(kinds)


def kept_binders(own, new, at):
    """The term with own binders of these types that gives those at the indexes to the hole new."""
    n = len(own)
    return (n, ("h", new), tuple([long_binder(n - 1 - j, own[j]) for j in at]))


def meeting(state, left, right):
    """The filler for an equation of two patterns whose heads are holes."""
    hole, other = left[1][1], right[1][1]
    new = len(state.holes)
    own, sort = state.holes[hole]
    binders = [long_head(part) for part in left[2]]
    others = [long_head(part) for part in right[2]]
    if hole == other:
        at = [j for j in range(len(own)) if binders[j] == others[j]]
        values = {hole: kept_binders(own, new, at)}
    else:
        at = [j for j in range(len(own)) if binders[j] in others]
        against = [others.index(binders[j]) for j in at]
        values = {hole: kept_binders(own, new, at), other: kept_binders(state.holes[other][0], new, against)}
    return values, ((tuple([own[j] for j in at]), sort),)


def check_size(state):
    """LimitError if the values and the equations of a state are too large to be told."""
    terms = [value.term for value in state.filling]
    nodes = sum([value.nodes for value in state.filling])
    for equation in state.equations:
        terms.extend(equation.sides)
        nodes += equation.nodes
    if nodes > MOST or max([depth(term) for term in terms], default=0) > MOST_DEEP:
        raise LimitError(f"more than {MOST} nodes, or more than {MOST_DEEP} terms within one another")


def tidy_state(state):
    """The types and the values of the tidy filling for a state's filling, and its equations with the same holes."""
    check_size(state)
    values = [value.term for value in state.filling]
    orders = tidy_orders(values)
    kept = []
    for equation in state.equations:
        left, right = equation.sides
        kept.append((equation.prefix, equation.kind, tidy_term(left, orders), tidy_term(right, orders)))
    return tidy_kinds(state.holes, orders), tuple([tidy_term(value, orders) for value in values]), tuple(kept)
