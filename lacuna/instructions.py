"""Rules and goals made code for the machine (point 63).

A goal's code is the goal itself, in which rules stand as code. A rule's head has an instruction for each of its parts:

- ("take", slot): the variable stands for the part as it is. So a variable begins that is its whole part.
- ("look", head, below, term, new): the part must have this constant as its head; its parts are gone through by the
  instructions below. If it is a hole that is not filled, it is filled with the term instead.
- ("solve", term, new): the equation of the part and the term is solved.

Here new are the slots of the variables that have not begun yet, which get cells if the term is needed. Variables have
slots in their order.
"""

from lacuna.terms import long_head, long_row, places


class Code:
    """A rule as code: the types of its variables, the instructions for its head, and the code of its body.

    The terms are the long forms of the variables, below them.
    """

    def __init__(self, rule):
        kinds, _, parts, body = rule
        begun = {}
        self.kinds = kinds
        self.terms = long_row(kinds)
        self.head = [instruction(part, len(kinds), begun) for part in parts]
        self.body = goal_code(body)


def slots_in(term, many):
    """A dict of the slots of the variables in a term, which stands below so many variables of the rule."""
    found = {}
    for node, inner in places(term):
        sign, mark = node[1]
        if sign == "b" and inner <= mark < inner + many:
            found[many - 1 - (mark - inner)] = True
    return found


def slot_of(term, many):
    """The slot of the variable whose long form the term is, or None."""
    head = long_head(term)
    if head is None or head[0] != "b" or head[1] >= many:
        return None
    return many - 1 - head[1]


def instruction(term, many, begun):
    """The instruction for a part of a head, or for a part in one; begun has the slots that instructions ahead have."""
    slot = slot_of(term, many)
    if slot is not None and slot not in begun:
        begun[slot] = True
        return ("take", slot)
    new = [slot for slot in slots_in(term, many) if slot not in begun]
    n, head, parts = term
    if n == 0 and head[0] == "c":
        below = [instruction(part, many, begun) for part in parts]
        return ("look", head, below, term, new)
    begun.update({slot: True for slot in new})
    return ("solve", term, new)


def rules_code(rules):
    """The code of rules, each with its predicate ahead."""
    return [(rule[1], Code(rule)) for rule in rules]


def goal_code(goal):
    """The code of a goal."""
    tag = goal[0]
    if tag in ("and", "or"):
        return tag, goal_code(goal[1]), goal_code(goal[2])
    if tag in ("some", "all"):
        return tag, goal[1], goal_code(goal[2])
    if tag == "given":
        return tag, rules_code(goal[1]), goal_code(goal[2])
    return goal
