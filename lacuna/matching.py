"""Matchings of the second order, their trees and their answers (points 30 to 36)."""

from lacuna.errors import LimitError
from lacuna.patterns import is_problem
from lacuna.states import copying, first_state, holes_in, next_state, tidy_state
from lacuna.terms import copies_well, head_kind, is_index, places, takes_sorts

MOST_ANSWERS = 1000

# Limits of what a tree may come to: how many trees are in it, and how many nodes a state has.
MOST_TREES = 5000
MOST_NODES = 20000


def is_matching(value):
    """Whether any value is a matching."""
    if not is_problem(value):
        return False
    signature, holes, equations = value
    if holes_in([right for _, _, _, right in equations]):
        return False
    return copies_well(signature) and all([takes_sorts(kind) for kind in holes])


def projections(state, equation):
    """The indexes of the arguments that the hole of an equation may be projected to."""
    own, sort = state.holes[equation.sides[0][1][1]]
    return [j for j in range(len(own)) if own[j] == ((), sort)]


def count_ways(state, equation):
    """How many ways a choice of the equation has."""
    copies = 1 if equation.sides[1][1][0] == "c" else 0
    return copies + len(projections(state, equation))


def fillers(state, equation):
    """What the ways of a choice fill the hole of the equation with, in order."""
    hole = equation.sides[0][1][1]
    head = equation.sides[1][1]
    found = []
    if head[0] == "c":
        found.append(copying(state, hole, head, head_kind(state.constants, (), (), head)[0]))
    n = len(state.holes[hole][0])
    for j in projections(state, equation):
        found.append(({hole: (n, ("b", n - 1 - j), ())}, ()))
    return found


def branches(state, k):
    """The states that the ways of the choice of the equation number k lead to."""
    return [next_state(state, filler, k, MOST_NODES) for filler in fillers(state, state.equations[k])]


def best_choice(state):
    """The number of an equation with as few ways as there are, so that the tree is small."""
    counts = [count_ways(state, equation) for equation in state.equations]
    return counts.index(min(counts))


def few_trees(many):
    """LimitError if there are too many trees in a tree, which is one of the many itself."""
    if many > MOST_TREES + 1:
        raise LimitError(f"more than {MOST_TREES} trees in a tree")


def explored(problem):
    """The pair of a tree for a matching and of the states at its answers.

    The tree is told as a row of trees in the order of reading: each is a pair of its first parts and the number of
    trees in it.
    """
    rows = []
    ends = []
    todo = [first_state(problem)]
    while todo:
        few_trees(len(rows) + len(todo))
        state = todo.pop()
        if state.equations is None:
            rows.append((("clash",), 0))
        elif not state.equations:
            rows.append((("answer",), 0))
            ends.append(state)
        else:
            k = best_choice(state)
            after = branches(state, k)
            rows.append((("choose", k), len(after)))
            todo.extend(list(reversed(after)))
    return rows, ends


def grown(rows):
    """The tree that is told as a row of trees."""
    done = []
    for first, many in reversed(rows):
        trees = tuple([done.pop() for _ in range(many)])
        done.append(first + (trees,) if first[0] == "choose" else first)
    return done[0]


def has_choice_form(value):
    """Whether any value is a choice in a tree as far as one sees without a state."""
    if type(value) is not tuple or len(value) != 3 or value[0] != "choose":
        return False
    return is_index(value[1]) and type(value[2]) is tuple


def is_choice(state, value):
    """Whether any value, in the place of a tree for a state with equations, takes one with as many ways as trees."""
    if not has_choice_form(value) or value[1] >= len(state.equations):
        return False
    return count_ways(state, state.equations[value[1]]) == len(value[2])


def ends_of(problem, tree):
    """The states at the answers of any value as a tree for a matching, or None if it is no tree for it."""
    ends = []
    seen = 0
    todo = [(first_state(problem), tree)]
    while todo:
        seen += 1
        few_trees(seen)
        state, value = todo.pop()
        if state.equations is None:
            if value != ("clash",):
                return None
        elif not state.equations:
            if value != ("answer",):
                return None
            ends.append(state)
        elif is_choice(state, value):
            todo.extend(list(zip(branches(state, value[1]), value[2])))
        else:
            return None
    return ends


def answer_of(state):
    """The pair of the types and the values that an answer consists of."""
    kinds, values, _ = tidy_state(state)
    return kinds, values


def row_of_heads(told):
    """The heads of all nodes of an answer's values, in the order of reading."""
    return [node[1] for value in told[1] for node, _ in places(value)]


def answers_of(ends):
    """The answers of the states, in order."""
    if len(ends) > MOST_ANSWERS:
        raise LimitError(f"more than {MOST_ANSWERS} answers")
    return sorted([answer_of(state) for state in ends], key=row_of_heads)


def match(problem):
    """The list of the answers of a matching, in order."""
    return answers_of(explored(problem)[1])


def tree(problem):
    """A tree for a matching."""
    rows, ends = explored(problem)
    # A tree with answers that are too many or too large is not to be told.
    answers_of(ends)
    return grown(rows)


def answers(problem, tree):
    """The list of the answers of any value as a tree for a matching, in order, or None if it is no tree for it."""
    ends = ends_of(problem, tree)
    return None if ends is None else answers_of(ends)
