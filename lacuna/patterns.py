"""Problems and their answers (points 20 to 25)."""

from lacuna.filling import fill
from lacuna.states import copying, first_state, holes_in, is_hole, meeting, next_state, simplified_list, tidy_state
from lacuna.terms import are_kinds, head_kind, is_index, is_kind, is_signature, is_term, long_head

# How many nodes a state may have on the way. What is told has at most MOST; a state ahead of it may have more.
MOST_ON_WAY = 5000


def is_equation(signature, holes, value):
    """Whether any value is an equation over the constants and the holes."""
    if type(value) is not tuple or len(value) != 4:
        return False
    prefix, kind, left, right = value
    if not are_kinds(prefix) or not is_kind(kind):
        return False
    return all([is_term(signature, holes, prefix, kind, side) for side in (left, right)])


def is_problem(value):
    """Whether any value is a problem."""
    if type(value) is not tuple or len(value) != 3:
        return False
    signature, holes, equations = value
    if not is_signature(signature) or not are_kinds(holes) or type(equations) is not tuple:
        return False
    return all([is_equation(signature, holes, equation) for equation in equations])


def simplified(signature, holes, equations):
    """The simplified list as a tuple, or None if there is a clash."""
    found = simplified_list(dict(signature), equations)
    return None if found is None else tuple([equation.told() for equation in found])


def solves(problem, new, values):
    """Whether the filling values, to holes with the types new, solves a problem."""
    return all([fill(values, left) == fill(values, right) for _, _, left, right in problem[2]])


def may_be_taken(state, k):
    """Whether a step may take the equation number k."""
    if any([equation.hand for equation in state.equations]):
        return state.equations[k].hand
    return state.equations[k].patterns()


def taken(state):
    """The number of an equation that a step may take, or None."""
    waiting = None
    for k, equation in enumerate(state.equations):
        if equation.hand:
            return k
        if waiting is None and equation.patterns():
            waiting = k
    return waiting


def place_of(term, head):
    """The index of the part of a term that is the long form of the head, or None."""
    heads = [long_head(part) for part in term[2]]
    return heads.index(head) if head in heads else None


def words_for(side, other):
    """The words of the steps that take an equation of two patterns at this side."""
    if not is_hole(side) or is_hole(other):
        return ()
    words = ("round",) if side[1][1] in holes_in((other,)) else ()
    if other[1][0] == "b" and place_of(side, other[1]) is None:
        words = words + ("out",)
    return words if words else ("copy",)


def step_for(state, k):
    """A step that takes the equation number k, which is one of two patterns."""
    left, right = state.equations[k].sides
    if is_hole(left) and is_hole(right):
        return ("meet", k)
    if is_hole(left):
        return (words_for(left, right)[0], k, 0)
    return (words_for(right, left)[0], k, 1)


def has_step_form(value):
    """Whether any value is a step as far as one sees without a state."""
    if type(value) is not tuple or len(value) < 2 or not is_index(value[1]):
        return False
    if value[0] == "meet":
        return len(value) == 2
    return value[0] in ("copy", "out", "round") and len(value) == 3 and is_index(value[2]) and value[2] <= 1


def is_step(state, value):
    """Whether any value is a step that the state allows."""
    if not has_step_form(value) or value[1] >= len(state.equations) or not may_be_taken(state, value[1]):
        return False
    left, right = state.equations[value[1]].sides
    if value[0] == "meet":
        return is_hole(left) and is_hole(right)
    side, other = (left, right) if value[2] == 0 else (right, left)
    return value[0] in words_for(side, other)


def filler_of(state, step):
    """What a step that fills holes fills them with."""
    equation = state.equations[step[1]]
    if step[0] == "meet":
        return meeting(state, equation.sides[0], equation.sides[1])
    side, other = equation.sides[step[2]], equation.sides[1 - step[2]]
    head = other[1]
    needed = head_kind(state.constants, (), equation.prefix, head)[0]
    if head[0] == "b":
        head = ("b", len(side[2]) - 1 - place_of(side, head))
    return copying(state, side[1][1], head, needed)


def behind(state, step):
    """The state behind a step, or None if the step ends the row, or there is a clash behind it."""
    if step[0] in ("out", "round"):
        return None
    told = next_state(state, filler_of(state, step), step[1], MOST_ON_WAY)
    return None if told.equations is None else told


def began(problem):
    """The first state, or None if there is a clash in it."""
    state = first_state(problem)
    return None if state.equations is None else state


def answer(state):
    """What a row leads to that ends with the state, in which no step may be taken; None stands for an end before."""
    return ("none",) if state is None else ("filled",) + tidy_state(state)


def solved(problem):
    """The pair of a row that leads to the answer, and of the answer."""
    steps = []
    state = began(problem)
    while state is not None:
        k = taken(state)
        if k is None:
            break
        steps.append(step_for(state, k))
        state = behind(state, steps[-1])
    return tuple(steps), answer(state)


def solve(problem):
    """The answer to a problem."""
    return solved(problem)[1]


def row(problem):
    """A row that leads to the answer."""
    return solved(problem)[0]


def follow(problem, row):
    """What any value leads to as a row, or None."""
    if type(row) is not tuple:
        return None
    state = began(problem)
    for step in row:
        if state is None or not is_step(state, step):
            return None
        state = behind(state, step)
    if state is not None and taken(state) is not None:
        return None
    return answer(state)
