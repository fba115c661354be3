"""Putting derivations together: clauses, cuts and identities (points 70 to 75)."""

from lacuna.derivations import PARTS, counts
from lacuna.errors import LimitError
from lacuna.filling import opened_under
from lacuna.rules import lift_rule
from lacuna.terms import lifted_under, long_binder

# How many rows a derivation may have that is returned.
MOST_ROWS = 4000


def is_plain(goal):
    """Whether a goal is plain-built."""
    tag = goal[0]
    if tag in ("true", "atom"):
        return True
    if tag == "and":
        return is_plain(goal[1]) and is_plain(goal[2])
    if tag == "all":
        return is_plain(goal[2])
    if tag == "given":
        return all([is_plain(rule[3]) for rule in goal[1]]) and is_plain(goal[2])
    return False


def clauses(goal):
    """The tuple of the clauses of a plain-built goal."""
    tag = goal[0]
    if tag == "true":
        return ()
    if tag == "atom":
        return (((), (), goal[1], goal[2]),)
    if tag == "and":
        return clauses(goal[1]) + clauses(goal[2])
    found = []
    for kinds, rules, p, parts in clauses(goal[2]):
        if tag == "all":
            kinds = (goal[1],) + kinds
        else:
            rules = tuple([lift_rule(rule, len(kinds)) for rule in goal[1]]) + rules
        found.append((kinds, rules, p, parts))
    return tuple(found)


def rule_of(clause):
    """The rule of a clause."""
    kinds, rules, p, parts = clause
    goals = [goal_of(rule) for rule in rules]
    if not goals:
        return kinds, p, parts, ("true",)
    body = goals.pop()
    while goals:
        body = ("and", goals.pop(), body)
    return kinds, p, parts, body


def rules_of(goal):
    """The rules of the clauses of a plain-built goal."""
    return tuple([rule_of(clause) for clause in clauses(goal)])


def goal_of(rule):
    """The goal of a rule with a plain-built body."""
    kinds, p, parts, body = rule
    rules = rules_of(body)
    goal = ("atom", p, parts)
    if rules:
        goal = ("given", rules, goal)
    for kind in reversed(kinds):
        goal = ("all", kind, goal)
    return goal


# Below, rows of given tell the number of their rules: so one can see from the rows alone which rules there are.

def counted_rows(rules, goal, rows):
    """The list of the rows of a derivation of the goal from the rules, in which given rows tell how many rules."""
    found = []
    todo = [(goal, rules)]
    for row in rows:
        goal, rules = todo.pop()
        word = row[0]
        if word == "and":
            todo.extend([(goal[2], rules), (goal[1], rules)])
        elif word == "left":
            todo.append((goal[1], rules))
        elif word in ("right", "some", "all"):
            todo.append((goal[2], rules))
        elif word == "given":
            todo.append((goal[2], rules + goal[1]))
            row = (word, len(goal[1]))
        elif word == "use":
            todo.append((rules[row[1]][3], rules))
        found.append(row)
    return found


def told_rows(rows):
    """The rows as derivations have them."""
    return tuple([("given",) if row[0] == "given" else row for row in rows])


def put_in(rows):
    """For each row the number of rules that are put in above it."""
    found = []
    todo = [0]
    for row in rows:
        many = todo.pop()
        found.append(many)
        inner = many + row[1] if row[0] == "given" else many
        todo.extend([inner] * PARTS[row[0]])
    return found


def lengths(rows):
    """For each row the number of rows of the derivation that begins with it."""
    found = []
    done = []
    for row in reversed(rows):
        many = 1 + sum([done.pop() for _ in range(PARTS[row[0]])])
        done.append(many)
        found.append(many)
    found.reverse()
    return found


class Part:
    """The part of a derivation for a clause: its rows, and the numbers of the clause's types and of its rules."""

    def __init__(self, rows, names, rules):
        self.rows = rows
        self.names = names
        self.rules = rules


def parts_of(rows):
    """The list of the parts of a derivation for the clauses of its goal, which is plain-built."""
    names = counts(rows, "all")
    rules = put_in(rows)
    many = lengths(rows)
    found = []
    at = 0
    while at < len(rows):
        if rows[at][0] == "use":
            found.append(Part(rows[at:at + many[at]], names[at], rules[at]))
            at += many[at]
        else:
            at += 1
    return found


def taken_term(term, terms, d, more):
    """A term of a part, with d names of all around it in the part, as it stands at a place under so many more names.

    The names of the clause's types are opened with the terms.
    """
    term = lifted_under(term, more, len(terms) + d)
    return opened_under(term, terms, d)[0] if terms else term


def taken_rows(part, terms, first, names, rules):
    """The rows of a part at a place under so many names, and with so many rules from the number first on."""
    above = counts(part.rows, "all")
    found = []
    for row, d in zip(part.rows, above):
        if row[0] == "some":
            row = ("some", taken_term(row[1], terms, d, names))
        elif row[0] == "use":
            number = row[1] if row[1] < first else row[1] + rules
            row = ("use", number, tuple([taken_term(term, terms, d, names) for term in row[2]]))
        found.append(row)
    return found


class Cut:
    """A cut: its parts stand for the rules with numbers from first on."""

    def __init__(self, parts, first):
        self.parts = parts
        self.first = first

    def use(self, row, body, names, rules):
        """What a row of use and the derivation behind it become, under so many names and with so many rules put in."""
        _, number, terms = row
        at = number - self.first
        if at < 0:
            return [row] + body
        if at >= len(self.parts):
            return [("use", number - len(self.parts), terms)] + body
        part = self.parts[at]
        found = taken_rows(part, terms, self.first, names, rules)
        if part.rules == 0:
            return found
        # The rules of the clause are put in behind those of the place.
        return Cut(parts_of(body), self.first + rules).made(found)

    def made(self, rows):
        """The rows in which the cut is made."""
        names = counts(rows, "all")
        rules = put_in(rows)
        done = []
        for at in reversed(range(len(rows))):
            row = rows[at]
            behind = []
            for _ in range(PARTS[row[0]]):
                behind.extend(done.pop())
            if row[0] == "use":
                told = self.use(row, behind, names[at], rules[at])
            else:
                told = [row] + behind
            if len(told) > MOST_ROWS:
                raise LimitError(f"more than {MOST_ROWS} rows")
            done.append(told)
        return done[0]


def cut(program, middle, goal, first, second):
    """The cut of a derivation of middle into one of the goal from the rules of middle."""
    rules = program[1]
    rest = rules_of(middle)
    parts = parts_of(counted_rows(rules, middle, first))
    if rest:
        rows = counted_rows(rules, ("given", rest, goal), second)[1:]
    else:
        rows = counted_rows(rules, goal, second)
    return told_rows(Cut(parts, len(rules)).made(rows))


class Identity:
    """Writes the rows of identities."""

    def __init__(self):
        self.rows = []

    def write_row(self, row):
        """Write a row."""
        self.rows.append(row)
        if len(self.rows) > MOST_ROWS:
            raise LimitError(f"more than {MOST_ROWS} rows")

    def write(self, goal, numbers, rules):
        """Write the identity of a goal by the rules with these numbers, one for each clause, among all the rules."""
        left = list(numbers)
        # Each goal with the types of its names, its rules, and the numbers of those put in, from the whole goal on.
        todo = [(goal, (), rules, ())]
        while todo:
            goal, kinds, rules, put = todo.pop()
            tag = goal[0]
            if tag == "atom":
                self.use(left.pop(0), kinds, rules, put)
                continue
            self.write_row((tag,))
            if tag == "and":
                todo.extend([(goal[2], kinds, rules, put), (goal[1], kinds, rules, put)])
            elif tag == "all":
                todo.append((goal[2], kinds + (goal[1],), rules, put))
            elif tag == "given":
                more = tuple(range(len(rules), len(rules) + len(goal[1])))
                todo.append((goal[2], kinds, rules + goal[1], put + more))

    def use(self, number, kinds, rules, put):
        """Write the identity's part for a clause with these types, which is by the rule with the number."""
        n = len(kinds)
        self.write_row(("use", number, tuple([long_binder(n - 1 - j, kinds[j]) for j in range(n)])))
        self.write(rules[number][3], put, rules)


def identity(program, goal):
    """The identity of a plain-built goal."""
    rules = program[1]
    rest = rules_of(goal)
    writer = Identity()
    if rest:
        writer.write_row(("given",))
    writer.write(goal, list(range(len(rules), len(rules) + len(rest))), rules + rest)
    return tuple(writer.rows)
