"""Solving equations of patterns with levels: filling the cells of a store (point 62).

As in equations.py a hole gets a whole term at once; but a term that needs no renaming is put in as it stands, with
its environment.
"""

from lacuna.closures import built
from lacuna.equations import MOST_NODES, MOST_SEEN
from lacuna.errors import LimitError
from lacuna.store import entry, name_term, node_at
from lacuna.terms import long_binder


def levels_in(parts, env):
    """The levels of the binders and names whose long forms the parts are, under their environment."""
    return [entry(part, env) for part in parts]


class Target:
    """What a hole may be filled with: the cell, and the indexes of its parts by their levels.

    Binders whose levels are from base on are own ones of the value.
    """

    def __init__(self, cell, levels, base):
        self.hole = cell
        self.places = {levels[j]: j for j in range(len(levels))}
        self.base = base

    def has(self, level):
        """Whether the binder or name with this level may stand in the value."""
        return level < self.hole.level or level >= self.base or level in self.places

    def head_for(self, level, inner):
        """The head in the value for a binder or name that it may have, of as many binders around it as inner."""
        if level in self.places:
            return ("b", inner - self.base + len(self.places) - 1 - self.places[level])
        return ("n", level) if level < self.hole.level else ("b", inner - 1 - level)


class Binder:
    """Solves equations by filling the cells of a store."""

    def __init__(self, store):
        self.store = store
        self.seen = 0
        self.nodes = 0

    def look(self):
        """Count a node that is looked at."""
        self.seen += 1
        if self.seen > MOST_SEEN:
            raise LimitError("the terms of equations have too many nodes")

    def spend(self):
        """Count a node of a value."""
        self.look()
        self.nodes += 1
        if self.nodes > MOST_NODES:
            raise LimitError("what holes are filled with is too large")

    def redirect(self, cell, new, at, names):
        """Fill a cell with another one that gets its arguments at these indexes, and then the names of these levels."""
        own = cell.kind[0]
        n = len(own)
        parts = [long_binder(n - 1 - j, own[j]) for j in at] + [name_term(x, cell.names[x]) for x in names]
        self.store.fill(cell, (n, ("h", new), tuple(parts)), ())

    def narrow(self, cell, level, at, names):
        """Fill a cell with a new one of the level that gets its arguments at these indexes, and names above the level.

        The new one is returned.
        """
        own, sort = cell.kind
        kinds = [own[j] for j in at] + [cell.names[x] for x in names]
        new = self.store.cell(cell.names[:level], level, (tuple(kinds), sort))
        self.redirect(cell, new, at, names)
        return new

    def fits(self, cell, levels, target):
        """Whether an inner hole with these parts may stand in a value; otherwise it is made so that it may."""
        at = [j for j in range(len(levels)) if target.has(levels[j])]
        level = target.hole.level
        names = [x for x in target.places if level <= x < cell.level]
        if len(at) == len(levels) and not names:
            if cell.level > level:
                self.store.sink(cell, level)
            return True
        self.narrow(cell, min(level, cell.level), at, names)
        return False

    def read(self, worth, level, target):
        """The next node of a term that is to be a value, as node_at tells it, or None if it may not stand there."""
        while True:
            n, head, parts, env, inner = node_at(worth[0], worth[1], level)
            if head[0] == "n" and not target.has(head[1]):
                return None
            if head[0] == "h":
                if head[1] == target.hole:
                    return None
                if not self.fits(head[1], levels_in(parts, env), target):
                    continue
            self.spend()
            return n, head, parts, env, inner

    def is_ready(self, worth, level, target):
        """Whether a term may be the value of a hole without parts."""
        todo = [(worth, level)]
        while todo:
            inner_worth, outer = todo.pop()
            node = self.read(inner_worth, outer, target)
            if node is None:
                return False
            _, _, parts, env, inner = node
            todo.extend([((part, env), inner) for part in parts])
        return True

    def renamed(self, worth, level, target):
        """The value of a hole that comes of a term, or None."""
        rows = []
        todo = [(worth, level)]
        while todo:
            inner_worth, outer = todo.pop()
            node = self.read(inner_worth, outer, target)
            if node is None:
                return None
            n, head, parts, env, inner = node
            if head[0] == "n":
                head = target.head_for(head[1], inner)
            rows.append((n, head, len(parts)))
            todo.extend([((part, env), inner) for part in reversed(parts)])
        rows[0] = (len(target.places),) + rows[0][1:]
        return built(rows)

    def meet(self, cell, levels, others):
        """Solve the equation of a hole with itself, with parts of these levels."""
        at = [j for j in range(len(levels)) if levels[j] == others[j]]
        if len(at) < len(levels):
            self.narrow(cell, cell.level, at, [])

    def hand_on(self, cell, other):
        """Solve the equation of two different holes without arguments."""
        # Of two holes of one level the newer one is filled, as in equations.py.
        if (cell.level, cell.number) < (other.level, other.number):
            self.store.fill(other, (0, ("h", cell), ()), ())
        else:
            self.store.fill(cell, (0, ("h", other), ()), ())

    def give(self, node, against, worth, level):
        """Whether an equation can be solved one of whose sides, with this first node, has a hole as its head.

        The other side is worth, a pair of a term and its environment, and has the first node against.
        """
        cell = node[1][1]
        levels = levels_in(node[2], node[3])
        other = against[1][1]
        if against[1][0] == "h" and other == cell:
            self.meet(cell, levels, levels_in(against[2], against[3]))
            return True
        if against[1][0] == "h" and not cell.kind[0] and not other.kind[0]:
            self.hand_on(cell, other)
            return True
        target = Target(cell, levels, node[4])
        if levels or worth[0][0]:
            value = self.renamed(worth, level, target)
            if value is None:
                return False
            self.store.fill(cell, value, ())
            return True
        if not self.is_ready(worth, level, target):
            return False
        self.store.fill(cell, (0, against[1], against[2]), against[3])
        return True

    def solve(self, equations, level):
        """Whether the equations can be solved; then cells are filled so that they are.

        Each equation is a pair of two pairs of a term and its environment, and level binders are around all of them.
        """
        todo = [(left, right, level) for left, right in reversed(equations)]
        while todo:
            left, right, level = todo.pop()
            self.look()
            first = node_at(left[0], left[1], level)
            second = node_at(right[0], right[1], level)
            if first[1][0] == "h":
                good = self.give(first, second, right, level)
            elif second[1][0] == "h":
                good = self.give(second, first, left, level)
            else:
                good = first[1] == second[1]
                _, _, parts, env, inner = first
                _, _, others, other_env, _ = second
                if good:
                    pairs = [((parts[j], env), (others[j], other_env), inner) for j in range(len(parts))]
                    todo.extend(list(reversed(pairs)))
            if not good:
                return False
        return True
