"""The store of the machine and of problems with levels: cells, and the trail of their changes (points 60 and 63).

Terms have two more heads here: ("n", level) is the name with this level, counted from 0, outermost first, and
("h", cell) is the hole that a cell stands for. A term stands in an environment, which tells what the binders around
it stand for: a level, a cell, or a pair of a term and its environment.
"""

from lacuna.closures import built, entry_of
from lacuna.errors import LimitError
from lacuna.terms import long_form, long_head


class Cell:
    """The hole of a cell: the types of the names where it was made, its level and its type without these names.

    The worth is what it is filled with, a pair of a term and its environment, or None. Cells have numbers in the
    order in which they were made.
    """

    def __init__(self, number, names, level, kind):
        self.number = number
        self.names = names
        self.level = level
        self.kind = kind
        self.worth = None

    def raised_kind(self):
        """The type of the hole with the names up to its level as its first arguments."""
        arguments, sort = self.kind
        return self.names[:self.level] + arguments, sort


class Store:
    """The cells of a machine. The trail tells of each change the cell and the level that it had, or None if filled."""

    def __init__(self):
        self.many = 0
        self.trail = []

    def cell(self, names, level, kind):
        """A new cell."""
        self.many += 1
        return Cell(self.many - 1, names, level, kind)

    def fill(self, cell, term, env):
        """Fill the hole of a cell."""
        self.trail.append((cell, None))
        cell.worth = (term, env)

    def sink(self, cell, level):
        """Make the level of a cell lower."""
        self.trail.append((cell, cell.level))
        cell.level = level

    def undo(self, mark):
        """Undo all changes but the first ones, as many as mark tells."""
        while len(self.trail) > mark:
            cell, level = self.trail.pop()
            if level is None:
                cell.worth = None
            else:
                cell.level = level


def entry(term, env):
    """What a binder stands for when the term is put in for it."""
    n, head, parts = term
    if parts:
        head = long_head(term)
    elif n:
        head = None
    if head is None or head[0] == "c":
        return term, env
    # Without these short ways a chain of long forms would be followed again and again.
    if head[0] == "b":
        return entry_of(head[1], env)
    return head[1]


def node_at(term, env, level):
    """The first node of what the term is under the environment, where level binders that stay are around it.

    It is told as its number of own binders, its head, its parts, and the environment and the number of binders that
    stay for these. The head is a constant, a name, or a cell that is not filled; a binder that stays counts as a name.
    """
    n, head, parts = term
    inner = level + n
    if n:
        env = env + tuple(range(level, inner))
    while True:
        sign, mark = head
        if sign == "b":
            there = entry_of(mark, env)
            if type(there) is int:
                return n, ("n", there), parts, env, inner
            if type(there) is Cell:
                head = ("h", there)
                continue
            term, outer = there
        elif sign == "h" and mark.worth is not None:
            term, outer = mark.worth
        else:
            return n, head, parts, env, inner
        env = outer + tuple([entry(part, env) for part in parts])
        _, head, parts = term


def name_term(level, kind):
    """The long form of a name."""
    return long_form(("n", level), kind)


class Raiser:
    """Reads terms of a store in the raised form (point 61); LimitError if they have too many nodes together.

    Holes get the numbers of their cells; kinds has their types, and cells the cells, by these numbers.
    """

    def __init__(self, most):
        self.rest = most
        self.kinds = {}
        self.cells = {}

    def note(self, cell):
        """Keep the type of a hole that was read, and return the long forms of the names that it may use."""
        self.kinds[cell.number] = cell.raised_kind()
        self.cells[cell.number] = cell
        return [(name_term(level, cell.names[level]), ()) for level in range(cell.level)]

    def read(self, worth, level):
        """The raised form of a pair of a term and its environment, under so many names."""
        rows = []
        todo = [(worth, level)]
        while todo:
            (term, env), outer = todo.pop()
            n, head, parts, env, inner = node_at(term, env, outer)
            below = [(part, env) for part in parts]
            if head[0] == "n":
                head = ("b", inner - 1 - head[1])
            elif head[0] == "h":
                below = self.note(head[1]) + below
                head = ("h", head[1].number)
            rows.append((n, head, len(below)))
            self.rest -= 1
            if self.rest < 0:
                raise LimitError("too many nodes")
            todo.extend([(part, inner) for part in reversed(below)])
        return built(rows)
