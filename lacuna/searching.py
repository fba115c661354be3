"""The states of a search, and its steps (points 50 to 54 and 57)."""

from lacuna.closures import closure, term_under
from lacuna.derivations import changed_row
from lacuna.equations import Holes, MOST_NODES
from lacuna.errors import LimitError
from lacuna.matching import match
from lacuna.rows import Known, Rules, listed
from lacuna.states import kept_binders
from lacuna.telling import is_stuck, matching_of, terms_of, tidy_answer
from lacuna.terms import MOST, folded, long_hole, long_row

MOST_STATES = 2000


class Task:
    """A goal that is to be derived: what the binders around it stand for, its names, and the rules.

    Above is the number of use rows above it, rest the next task of the state, or None. The binders of some and the
    variables of rules stand for terms in the prefix of the names, as in derivations, so that goals are opened by this
    alone; a rule that is taken into a longer prefix stays as it is.
    """

    def __init__(self, goal, env, prefix, rules, above, rest):
        self.goal = goal
        self.env = env
        self.prefix = prefix
        self.rules = rules
        self.above = above
        self.rest = rest

    def inner(self, goal, env, rest):
        """A task for a goal with the same names and rules."""
        return Task(goal, env, self.prefix, self.rules, self.above, rest)

    def with_name(self, kind):
        """The task of the goal of an all."""
        env = self.env + (len(self.prefix),)
        return Task(self.goal[2], env, self.prefix + (kind,), self.rules, self.above, self.rest)

    def with_rules(self):
        """The task of the goal of a given."""
        rules = Rules([(rule[1], rule) for rule in self.goal[1]], self.env, self.rules)
        return Task(self.goal[2], self.env, self.prefix, rules, self.above, self.rest)

    def used(self, body, env):
        """The task of the body of a rule."""
        return Task(body, env, self.prefix, self.rules, self.above + 1, self.rest)

    def entry(self, term):
        """What a binder stands for when the term, under the names, is put in for it."""
        return closure(term, tuple(range(len(self.prefix))))


class Branch:
    """A state of a search: its first task, or None; what holes are filled with; and the last row that is known."""

    def __init__(self, first, filling, known):
        self.first = first
        self.filling = filling
        self.known = known

    def behind(self, row, first):
        """The state behind a step that fills nothing and tells the row."""
        return Branch(first, self.filling, Known(row, len(self.first.prefix), self.known))

    def filled(self, values, row, first):
        """The state behind a step that fills holes with values."""
        filling = dict(self.filling)
        filling.update(values)
        return Branch(first, filling, Known(row, len(self.first.prefix), self.known))


class Reader:
    """Reads terms with holes that are filled; LimitError if they have more than so many nodes together."""

    def __init__(self, filling, most):
        self.filling = filling
        self.rest = most

    def read(self, term, level):
        """The term, under so many names, with no hole that is filled."""
        told, nodes = term_under(term, tuple(range(level)), level, self.filling, self.rest)
        self.rest -= nodes
        return told


class Search:
    """A search: its states, the answers that are told, and whether an atom was not looked at.

    The solver has a method solution, which solves equations as that of equations.py does; the height is that of
    point 57, or None.
    """

    def __init__(self, program, question, solver, height):
        signature, rules = program
        asked, goal = question
        self.signature = signature
        self.constants = dict(signature)
        self.asked = asked
        self.solver = solver
        self.height = height
        self.holes = Holes(asked)
        self.answers = []
        self.is_open = False
        ahead = Rules([(rule[1], rule) for rule in rules], (), None)
        # The first state is the last one of this list.
        self.branches = [Branch(Task(goal, (), (), ahead, 0, None), {}, None)]

    def take(self):
        """Take a step; returns whether it is not stuck."""
        branch = self.branches.pop()
        found = self.after(branch, branch.first)
        if found is None:
            return False
        self.branches.extend(list(reversed(found)))
        if len(self.branches) > MOST_STATES:
            raise LimitError(f"more than {MOST_STATES} states at one time")
        return True

    def after(self, branch, task):
        """The states that come of the first task of a state, in order, or None if it is stuck."""
        goal, env, rest = task.goal, task.env, task.rest
        tag = goal[0]
        if tag == "true":
            return [branch.behind(goal, rest)]
        if tag == "and":
            return [branch.behind((tag,), task.inner(goal[1], env, task.inner(goal[2], env, rest)))]
        if tag == "or":
            rows = ((("left",), goal[1]), (("right",), goal[2]))
            return [branch.behind(row, task.inner(side, env, rest)) for row, side in rows]
        if tag == "some":
            term = self.new_term(task, goal[1])
            return [branch.behind((tag, term), task.inner(goal[2], env + (task.entry(term),), rest))]
        if tag == "all":
            return [branch.behind((tag,), task.with_name(goal[1]))]
        if tag == "given":
            return [branch.behind((tag,), task.with_rules())]
        if tag == "equal":
            return self.equalled(branch, task)
        if tag == "match":
            return self.matched(branch, task)
        return self.tried(branch, task)

    def new_term(self, task, kind):
        """The term that is put in for a new hole of the type under the names of the task."""
        arguments, sort = kind
        binders = task.prefix + arguments
        return len(arguments), ("h", self.holes.made((binders, sort))), long_row(binders)

    def equalled(self, branch, task):
        """The states that come of an equal."""
        _, kind, left, right = task.goal
        start = len(self.holes.kinds)
        equation = (kind, (left, task.env), (right, task.env))
        values = self.solver.solution(self.holes, branch.filling, task.prefix, [equation])
        if values is None:
            return []
        return [branch.filled(before(values, start), ("equal",), task.rest)]

    def tried(self, branch, task):
        """The states that come of an atom."""
        if task.above == self.height:
            self.is_open = True
            return []
        found = []
        for number, rule, env in task.rules.tried(task.goal[1]):
            after = self.used(branch, task, number, rule, env)
            if after is not None:
                found.append(after)
        return found

    def used(self, branch, task, number, rule, env):
        """The state that comes of trying a rule, around which binders stand for env, for an atom, or None."""
        kinds, p, heads, body = rule
        start = len(self.holes.kinds)
        terms = [self.new_term(task, kind) for kind in kinds]
        inner = env + tuple([task.entry(term) for term in terms])
        needed = self.constants[p][0]
        parts = task.goal[2]
        rows = [(needed[j], (parts[j], task.env), (heads[j], inner)) for j in range(len(needed))]
        values = self.solver.solution(self.holes, branch.filling, task.prefix, rows)
        if values is None:
            return None
        # What the rule's variables are is put in at once: so their holes need not be kept.
        terms = [settled_term(term, values) for term in terms]
        inner = env + tuple([task.entry(term) for term in terms])
        return branch.filled(before(values, start), ("use", number, tuple(terms)), task.used(body, inner))

    def matched(self, branch, task):
        """The states that come of a match, or None if it is stuck."""
        _, kind, left, right = task.goal
        level = len(task.prefix)
        sides = []
        for term in (left, right):
            told, _ = term_under(term, task.env, level, branch.filling, MOST_NODES)
            sides.append(told)
        if is_stuck(self.holes.kinds, sides[0], sides[1]):
            return None
        values, rows = self.so_far(branch, MOST_NODES)
        equation = (task.prefix, kind, sides[0], sides[1])
        matching = matching_of(self.signature, self.holes.kinds, equation, values + terms_of(rows))
        found = []
        for told in match(matching.problem):
            found.append(branch.filled(self.match_values(matching, told), ("match",), task.rest))
        return found

    def match_values(self, matching, told):
        """What the holes of a matching are filled with by an answer of it."""
        kinds, terms = told
        new = {k: self.holes.made(kind) for k, kind in enumerate(kinds)}
        values = {}
        for (hole, order), term in zip(matching.holes, terms):
            own, sort = self.holes.kinds[hole]
            # The term has its arguments in another order than the hole: a hole between them gets it as it is.
            between = self.holes.made((tuple([own[j] for j in order]), sort))
            values[hole] = kept_binders(own, between, order)
            values[between] = numbered(term, new)
        return values

    def so_far(self, branch, most):
        """The list of the values and that of the rows known so far; LimitError if they have too many nodes together."""
        reader = Reader(branch.filling, most)
        values = [reader.read(long_hole(k, self.asked[k]), 0) for k in range(len(self.asked))]
        return values, [changed_row(row, reader.read, level) for row, level in listed(branch.known)]

    def told(self, branch):
        """The answer that a state without tasks is, or None if it is too large."""
        try:
            values, rows = self.so_far(branch, MOST)
        except LimitError:
            return None
        return tidy_answer(values, rows, self.holes.kinds)

    def end(self, many):
        """Tell the answers that come first; returns how the search ends then, or None if it goes on.

        It goes on behind any number of answers if many is None.
        """
        while self.branches and self.branches[-1].first is None:
            answer = self.told(self.branches.pop())
            if answer is None:
                return "large"
            self.answers.append(answer)
            if len(self.answers) == many:
                return "many"
        return None if self.branches else "closed"


def before(values, start):
    """Those of the values that are for holes with numbers below start."""
    return {hole: values[hole] for hole in values if hole < start}


def settled_term(term, values):
    """The term of a new hole under all names, as new_term tells it, or what the hole is filled with there."""
    n, (_, hole), _ = term
    if hole not in values:
        return term
    # The own binders of the value are the names and then those of the term.
    _, head, parts = values[hole]
    return n, head, parts


def numbered(term, new):
    """The term with the numbers of its holes changed to those that new tells."""

    def change(node, inner, parts):
        n, head, _ = node
        if head[0] == "h":
            head = ("h", new[head[1]])
        return n, head, tuple(parts)

    return folded(term, change)
