"""Derivations (points 45 to 47)."""

from lacuna.closures import agree, closure
from lacuna.filling import fill, opened_under
from lacuna.terms import are_terms, is_index, is_pair, is_term

# How many nodes a term may have that comes of opening, where a derivation is looked at.
MOST_OPENED = 1000000

# How many derivations stand behind a row.
PARTS = {
    "true": 0, "and": 2, "left": 1, "right": 1, "some": 1, "all": 1, "given": 1, "equal": 0, "match": 0, "use": 1,
}


class Task:
    """A goal that is to be derived: its names, the rules, and what the binders around the goal stand for.

    The binders of some, and the variables of rules, stand for terms in the prefix of the names, so that nothing must
    be opened. Each rule is a pair of a rule and of what the binders around it stand for.
    """

    def __init__(self, goal, env, prefix, rules):
        self.goal = goal
        self.env = env
        self.prefix = prefix
        self.rules = rules

    def part(self, goal, env):
        """The task of a part of the goal with the same names and rules."""
        return Task(goal, env, self.prefix, self.rules)

    def entry(self, term):
        """What a binder stands for when a term in the prefix is put in for it."""
        return closure(term, tuple(range(len(self.prefix))))

    def under(self, kind):
        """The task of the goal of an all."""
        level = len(self.prefix)
        return Task(self.goal[2], self.env + (level,), self.prefix + (kind,), self.rules)

    def given(self):
        """The task of the goal of a given."""
        rules = tuple([(rule, self.env) for rule in self.goal[1]])
        return Task(self.goal[2], self.env, self.prefix, self.rules + rules)

    def same(self, left, right):
        """Whether two terms, each with what the binders around it stand for, are the same."""
        return agree(left, right, len(self.prefix), MOST_OPENED)


def some_tasks(task, row, signature, holes):
    """The tasks that stand behind any value as the row of a some, or None."""
    _, kind, goal = task.goal
    if not is_pair(row) or row[0] != "some" or not is_term(signature, holes, task.prefix, kind, row[1]):
        return None
    return [task.part(goal, task.env + (task.entry(row[1]),))]


def has_use_form(task, row):
    """Whether any value is the row of a rule as far as one sees without the rule."""
    if type(row) is not tuple or len(row) != 3 or row[0] != "use":
        return False
    return is_index(row[1]) and row[1] < len(task.rules) and type(row[2]) is tuple


def atom_tasks(task, row, signature, holes):
    """The tasks that stand behind any value as the row of an atom, or None."""
    if not has_use_form(task, row):
        return None
    (kinds, p, heads, body), outer = task.rules[row[1]]
    if p != task.goal[1] or not are_terms(signature, holes, task.prefix, kinds, row[2]):
        return None
    env = outer + tuple([task.entry(term) for term in row[2]])
    for head, part in zip(heads, task.goal[2]):
        if not task.same((head, env), (part, task.env)):
            return None
    return [task.part(body, env)]


def plain_tasks(task, row):
    """The tasks that stand behind any value as the row of a goal that asks for no terms, or None."""
    goal = task.goal
    tag = goal[0]
    if tag == "or":
        if row not in (("left",), ("right",)):
            return None
        return [task.part(goal[1] if row == ("left",) else goal[2], task.env)]
    if row != (tag,):
        return None
    if tag == "and":
        return [task.part(goal[1], task.env), task.part(goal[2], task.env)]
    if tag == "all":
        return [task.under(goal[1])]
    if tag == "given":
        return [task.given()]
    if tag in ("equal", "match") and not task.same((goal[2], task.env), (goal[3], task.env)):
        return None
    return []


def tasks_behind(task, row, signature, holes):
    """The tasks that stand behind any value as the first row for a task, or None if it is none."""
    if task.goal[0] == "some":
        return some_tasks(task, row, signature, holes)
    if task.goal[0] == "atom":
        return atom_tasks(task, row, signature, holes)
    return plain_tasks(task, row)


def is_derivation(program, question, rows):
    """Whether any value is a derivation of the question's goal."""
    if type(rows) is not tuple:
        return False
    signature, rules = program
    holes, goal = question
    todo = [Task(goal, (), (), tuple([(rule, ()) for rule in rules]))]
    for row in rows:
        tasks = tasks_behind(todo.pop(), row, signature, holes) if todo else None
        if tasks is None:
            return False
        todo.extend(list(reversed(tasks)))
    return not todo


def counts(rows, word):
    """For each row of a derivation the number of rows with this word ahead of it on the way from the first row."""
    found = []
    todo = [0]
    for row in rows:
        many = todo.pop()
        found.append(many)
        inner = many + 1 if row[0] == word else many
        todo.extend([inner] * PARTS[row[0]])
    return found


def height(rows):
    """The height of a derivation."""
    above = counts(rows, "use")
    return max([above[j] + 1 for j in range(len(rows)) if rows[j][0] == "use"], default=0)


def changed_row(row, change, d):
    """The row with change(term, d) in the place of each term."""
    if row[0] == "some":
        return ("some", change(row[1], d))
    if row[0] == "use":
        return ("use", row[1], tuple([change(term, d) for term in row[2]]))
    return row


def changed_rows(rows, change):
    """The rows with change(term, d) in the place of each term, where d is the number of names of all around it."""
    above = counts(rows, "all")
    return tuple([changed_row(rows[j], change, above[j]) for j in range(len(rows))])


def filled(rows, filling):
    """The derivation that comes of filling the holes."""
    return changed_rows(rows, lambda term, d: fill(filling, term))


def put(program, question, rows, term):
    """The derivation that comes of putting the term in for the name of the question's goal, which is an all."""
    return changed_rows(rows[1:], lambda part, d: opened_under(part, (term,), d)[0])


def renumbered(rows, first, more):
    """The rows in which the numbers of rules from first on are greater by more."""
    found = []
    for row in rows:
        if row[0] == "use" and row[1] >= first:
            row = ("use", row[1] + more, row[2])
        found.append(row)
    return tuple(found)
