"""The search by the words of points 50 to 54 and 57: states are built anew at each step, and nothing is shared.

Equations are solved by solve and match, goals opened, filled and lifted as in the points before; all of these have
tests of their own.
"""

from lacuna.filling import compose, fill, unchanged
from lacuna.matching import match
from lacuna.patterns import solve
from lacuna.rules import fill_goal, lift_rule, open_goal, open_rule

from tests.samples import depth, long, nodes, subterms


class TooLarge(Exception):
    """More than these words are for."""


class Stuck(Exception):
    """A match that cannot be solved."""


def long_in(i, binders):
    """The long form of the binder i in the prefix."""
    return long(("b", i), binders[len(binders) - 1 - i], len(binders))


def fill_rule(values, rule):
    return fill_goal(values, ("given", (rule,), ("true",)))[1][0]


class Task:
    """A goal in a prefix; groups are the rules of the program, and then those of each given, all in the prefix."""

    def __init__(self, goal, prefix, groups, above):
        self.goal = goal
        self.prefix = prefix
        self.groups = groups
        self.above = above

    def with_goal(self, goal):
        return Task(goal, self.prefix, self.groups, self.above)

    def filled(self, values):
        groups = tuple(tuple(fill_rule(values, rule) for rule in group) for group in self.groups)
        return Task(fill_goal(values, self.goal), self.prefix, groups, self.above)

    def order(self):
        """The rules with their numbers as they are tried."""
        rows = []
        first = 0
        for group in self.groups:
            rows.append([(first + j, rule) for j, rule in enumerate(group)])
            first += len(group)
        return [row for group in reversed(rows[1:]) for row in group] + rows[0]


class State:
    def __init__(self, kinds, tasks, values, rows):
        self.kinds = kinds          # of the holes
        self.tasks = tasks
        self.values = values
        self.rows = rows

    def then(self, row, tasks):
        return State(self.kinds, tuple(tasks) + self.tasks[1:], self.values, self.rows + (row,))

    def filled(self, values, kinds):
        tasks = tuple(task.filled(values) for task in self.tasks)
        rows = tuple(fill_row(values, row) for row in self.rows)
        return State(kinds, tasks, compose(self.values, values), rows)

    def new_hole(self, prefix, kind):
        """The state with a new hole, and the term that is put in for it."""
        arguments, sort = kind
        binders = prefix + arguments
        parts = tuple(long_in(i, binders) for i in reversed(range(len(binders))))
        term = (len(arguments), ("h", len(self.kinds)), parts)
        return State(self.kinds + ((binders, sort),), self.tasks, self.values, self.rows), term


def fill_row(values, row):
    if row[0] == "some":
        return ("some", fill(values, row[1]))
    if row[0] == "use":
        return ("use", row[1], tuple(fill(values, term) for term in row[2]))
    return row


def terms_of_rows(rows):
    found = []
    for row in rows:
        found += [row[1]] if row[0] == "some" else list(row[2]) if row[0] == "use" else []
    return found


def first_places(terms):
    """For each hole in the terms, in order, the order of its parts with which the binders' numbers fall."""
    found = {}
    for term in terms:
        for _, head, parts in subterms(term):
            if head[0] == "h" and head[1] not in found:
                numbers = [part[1][1] - part[0] for part in parts]
                found[head[1]] = sorted(range(len(numbers)), key=lambda j: -numbers[j])
    return found


def renamed(term, ranks, orders):
    n, head, parts = term
    parts = [renamed(part, ranks, orders) for part in parts]
    if head[0] == "h":
        return (n, ("h", ranks[head[1]]), tuple(parts[j] for j in orders[head[1]]))
    return (n, head, tuple(parts))


def tidy_state(kinds, values, rows):
    """Point 54."""
    orders = first_places(list(values) + terms_of_rows(rows))
    ranks = {k: rank for rank, k in enumerate(orders)}
    types = tuple((tuple(kinds[k][0][j] for j in orders[k]), kinds[k][1]) for k in orders)

    def change(term):
        return renamed(term, ranks, orders)

    told = []
    for row in rows:
        if row[0] == "some":
            row = ("some", change(row[1]))
        elif row[0] == "use":
            row = ("use", row[1], tuple(change(term) for term in row[2]))
        told.append(row)
    return types, tuple(change(value) for value in values), tuple(told)


class Words:
    """A search; problems has the problems that were solved, in order."""

    def __init__(self, program, question, most=30):
        self.signature, rules = program
        holes, goal = question
        self.constants = dict(self.signature)
        self.states = [State(holes, (Task(goal, (), (rules,), 0),), unchanged(holes), ())]
        self.problems = []
        self.height = None
        self.is_open = False
        self.most = most

    def solved(self, state, prefix, equations):
        """The state with the equations solved, or None."""
        problem = (self.signature, state.kinds, tuple((prefix,) + equation for equation in equations))
        self.problems.append(problem)
        told = solve(problem)
        if told == ("none",):
            return None
        _, types, values, kept = told
        assert kept == ()
        return state.filled(values, types)

    def step(self):
        state = self.states.pop(0)
        self.states = self.after(state, state.tasks[0]) + self.states
        for found in self.states:
            if len(found.kinds) > self.most or len(self.states) > self.most:
                raise TooLarge

    def after(self, state, task):
        goal = task.goal
        tag = goal[0]
        if tag == "true":
            return [state.then(goal, ())]
        if tag == "and":
            return [state.then((tag,), (task.with_goal(goal[1]), task.with_goal(goal[2])))]
        if tag == "or":
            rows = (("left",), goal[1]), (("right",), goal[2])
            return [state.then(row, (task.with_goal(side),)) for row, side in rows]
        if tag == "some":
            state, term = state.new_hole(task.prefix, goal[1])
            return [state.then((tag, term), (task.with_goal(open_goal(goal[2], (term,))),))]
        if tag == "all":
            groups = tuple(tuple(lift_rule(rule, 1) for rule in group) for group in task.groups)
            return [state.then((tag,), (Task(goal[2], task.prefix + (goal[1],), groups, task.above),))]
        if tag == "given":
            return [state.then((tag,), (Task(goal[2], task.prefix, task.groups + (goal[1],), task.above),))]
        if tag == "equal":
            told = self.solved(state.then((tag,), ()), task.prefix, (goal[1:],))
            return [] if told is None else [told]
        if tag == "match":
            return self.matched(state, task)
        return self.atom(state, task)

    def atom(self, state, task):
        if task.above == self.height:
            self.is_open = True
            return []
        found = []
        needed = self.constants[task.goal[1]][0]
        for number, rule in task.order():
            if rule[1] != task.goal[1]:
                continue
            terms = []
            after = state
            for kind in rule[0]:
                after, term = after.new_hole(task.prefix, kind)
                terms.append(term)
            (_, _, heads), body = open_rule(rule, tuple(terms))
            inner = Task(body, task.prefix, task.groups, task.above + 1)
            after = after.then(("use", number, tuple(terms)), (inner,))
            after = self.solved(after, task.prefix, tuple(zip(needed, task.goal[2], heads)))
            if after is not None:
                found.append(after)
        return found

    def matched(self, state, task):
        _, kind, left, right = task.goal
        if any(node[1][0] == "h" for node in subterms(right)):
            raise Stuck
        there = {node[1][1] for node in subterms(left) if node[1][0] == "h"}
        if any(part[0] for k in there for part in state.kinds[k][0]):
            raise Stuck
        orders = first_places(list(state.values) + terms_of_rows(state.rows))
        orders = {k: orders[k] for k in orders if k in there}
        ranks = {k: rank for rank, k in enumerate(orders)}
        holes = tuple((tuple(state.kinds[k][0][j] for j in orders[k]), state.kinds[k][1]) for k in orders)
        found = []
        for types, terms in match((self.signature, holes, ((task.prefix, kind, renamed(left, ranks, orders), right),))):
            # The answer's holes come first, then those that are not in the matching.
            kinds = list(types)
            values = []
            for k, (own, sort) in enumerate(state.kinds):
                if k in there:
                    values.append(turned(terms[ranks[k]], orders[k]))
                else:
                    values.append(long(("h", len(kinds)), (own, sort), 0))
                    kinds.append((own, sort))
            found.append(state.then(("match",), ()).filled(tuple(values), tuple(kinds)))
        return found


def turned(value, order):
    """The value of a hole whose arguments, in this order, are those of the value."""
    n = len(order)
    places = {n - 1 - rank: n - 1 - j for rank, j in enumerate(order)}

    def change(term, inner):
        m, head, parts = term
        inner += m
        if head[0] == "b" and head[1] >= inner:
            head = ("b", places[head[1] - inner] + inner)
        return (m, head, tuple(change(part, inner) for part in parts))

    told = change((0,) + value[1:], 0)
    return (n,) + told[1:]


def is_small(answer):
    """Whether an answer is not too large."""
    terms = list(answer[1]) + terms_of_rows(answer[2])
    return sum(map(nodes, terms)) <= 2000 and max(map(depth, terms), default=0) <= 100


def take_answers(run, answers, many):
    while run.states and not run.states[0].tasks:
        state = run.states.pop(0)
        answer = tidy_state(state.kinds, state.values, state.rows)
        if not is_small(answer):
            return "large"
        answers.append(answer)
        if len(answers) == many:
            return "many"
    return None if run.states else "closed"


def search_words(program, question, steps, many):
    """What search returns; TooLarge or LimitError if this is more than these words are for."""
    run = Words(program, question)
    answers = []
    used = 0
    while True:
        end = take_answers(run, answers, many)
        if end is None and used == steps:
            end = "steps"
        if end is not None:
            return tuple(answers), end, used
        used += 1
        try:
            run.step()
        except Stuck:
            return tuple(answers), "stuck", used


def height_words(program, question, height):
    """What by_height returns, and the problems that were solved."""
    run = Words(program, question)
    run.height = height
    answers = []
    for _ in range(300):
        end = take_answers(run, answers, None)
        if end == "closed" and run.is_open:
            end = "open"
        if end is not None:
            return (tuple(answers), end), run.problems
        run.step()
    raise TooLarge
