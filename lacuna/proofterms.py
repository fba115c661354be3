"""Derivations as terms (points 76 to 78)."""

from lacuna.closures import built, node_under, term_under
from lacuna.cutting import MOST_ROWS, clauses, counted_rows, parts_of
from lacuna.derivations import is_derivation
from lacuna.errors import LimitError
from lacuna.terms import MOST, MOST_DEEP


def clause_type(clause):
    """The type of a clause."""
    kinds, rules, p, _ = clause
    return kinds + tuple([rule_type(rule) for rule in rules]), "." + p


def rule_type(rule):
    """The type of a rule whose body is plain-built."""
    kinds, p, _, body = rule
    return kinds + tuple([clause_type(clause) for clause in clauses(body)]), "." + p


def proof_types(program, goal):
    """The pair of the types of the program's rules, and of those of the goal's clauses."""
    rules = tuple([rule_type(rule) for rule in program[1]])
    return rules, tuple([clause_type(clause) for clause in clauses(goal)])


class Place:
    """A place in a derivation, or in its terms: the levels in the terms' prefix of its names and of its rules."""

    def __init__(self, names, rules, level):
        self.names = names
        self.rules = rules
        self.level = level

    def inner(self, names, rules):
        """The place below so many more names, and then so many rules."""
        middle = self.level + names
        end = middle + rules
        return Place(self.names + tuple(range(self.level, middle)), self.rules + tuple(range(middle, end)), end)


def part_node(part, place):
    """The first node of the term for a part, and what is behind it.

    That is for each part of the node whether it is a part of the derivation again, what it is, and where it stands: a
    place, or for a term the pair of its environment and of the number of binders around it.
    """
    inner = place.inner(part.names, part.rules)
    _, number, terms = part.rows[0]
    behind = [(False, term, (inner.names, inner.level)) for term in terms]
    behind.extend([(True, below, inner) for below in parts_of(part.rows[1:])])
    return (part.names + part.rules, ("b", inner.level - 1 - inner.rules[number]), len(behind)), behind


def term_node(term, around):
    """The first node of a term of a derivation, and what is behind it, as part_node tells it."""
    n, head, parts, env, inner = node_under(term, around[0], around[1], {})
    return (n, head, len(parts)), [(False, part, (env, inner)) for part in parts]


def part_term(part, place):
    """The term for a part of a derivation."""
    rows = []
    todo = [(True, part, place, 1)]
    while todo:
        is_part, thing, around, deep = todo.pop()
        node, behind = part_node(thing, around) if is_part else term_node(thing, around)
        rows.append(node)
        if len(rows) > MOST or deep > MOST_DEEP:
            raise LimitError(f"more than {MOST} nodes, or more than {MOST_DEEP} terms within one another")
        todo.extend([(below, what, where, deep + 1) for below, what, where in reversed(behind)])
    return built(rows)


def to_terms(program, goal, rows):
    """The terms that a derivation of the goal is written as."""
    rules = program[1]
    place = Place((), (), 0).inner(0, len(rules))
    parts = parts_of(counted_rows(rules, goal, rows))
    return tuple([part_term(part, place) for part in parts])


class Source:
    """The terms for the clauses of a goal, those first that are to be taken next.

    The marks tell for each binder around them, outermost first, the number of its name or of its rule.
    """

    def __init__(self, terms, marks):
        self.terms = list(terms)
        self.marks = marks


class Below:
    """A goal that terms are read for: its names and rules, and the numbers of those that are own ones of a clause.

    The rules are all that may be used, and names the number of names.
    """

    def __init__(self, goal, names, rules, source):
        self.goal = goal
        self.names = names
        self.rules = rules
        self.source = source
        self.own_names = ()
        self.own_rules = ()

    def part(self, goal):
        """The same for a part of the goal."""
        told = Below(goal, self.names, self.rules, self.source)
        told.own_names = self.own_names
        told.own_rules = self.own_rules
        return told

    def with_name(self, goal):
        """The same for the goal of an all."""
        told = self.part(goal)
        told.own_names = self.own_names + (self.names,)
        told.names = self.names + 1
        return told

    def with_rules(self, goal, rules):
        """The same for the goal of a given."""
        told = self.part(goal)
        first = len(self.rules)
        told.own_rules = self.own_rules + tuple(range(first, first + len(rules)))
        told.rules = self.rules + rules
        return told

    def used(self):
        """The row for an atom, and what is behind it."""
        _, head, parts = self.source.terms.pop(0)
        marks = self.source.marks + self.own_names + self.own_rules
        number = marks[len(marks) - 1 - head[1]]
        kinds, _, _, body = self.rules[number]
        # No rule is in the terms for a rule's variables: its sort is none of theirs.
        terms = [term_under(part, marks, self.names, {}, MOST)[0] for part in parts[:len(kinds)]]
        behind = Below(body, self.names, self.rules, Source(parts[len(kinds):], marks))
        return ("use", number, tuple(terms)), behind


def rows_of(rules, goal, terms):
    """The rows that terms for the clauses of a goal are written for, whether or not the atoms fit."""
    rows = []
    todo = [Below(goal, 0, rules, Source(terms, tuple(range(len(rules)))))]
    while todo:
        below = todo.pop()
        goal = below.goal
        row = (goal[0],)
        if goal[0] == "and":
            todo.extend([below.part(goal[2]), below.part(goal[1])])
        elif goal[0] == "all":
            todo.append(below.with_name(goal[2]))
        elif goal[0] == "given":
            todo.append(below.with_rules(goal[2], goal[1]))
        elif goal[0] == "atom":
            row, behind = below.used()
            todo.append(behind)
        rows.append(row)
    return tuple(rows)


def from_terms(program, goal, terms):
    """The derivation of the goal that is written as the terms, or None if there is none."""
    rows = rows_of(program[1], goal, terms)
    if not is_derivation(program, ((), goal), rows):
        return None
    if len(rows) > MOST_ROWS:
        raise LimitError(f"more than {MOST_ROWS} rows")
    return rows
