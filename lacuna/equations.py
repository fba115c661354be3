"""Solving equations of patterns on the way of a search (points 24 and 51).

The steps of point 22 fill holes node by node; here a hole gets the whole term at once that they come to. What a hole
is filled with may have holes that are filled, too: terms are read under the filling.
"""

from lacuna.closures import built, closure, node_under, term_under
from lacuna.errors import LimitError
from lacuna.states import kept_binders
from lacuna.terms import MOST_DEEP

# How many nodes the values may have that are found for some equations, and how many nodes may be looked at for that:
# as values are read again and again, this is more than a state has.
MOST_NODES = 20000
MOST_SEEN = 1000000


class Holes:
    """The types of all holes of a search. Each new hole has a new number, whichever state it is made for."""

    def __init__(self, kinds):
        self.kinds = list(kinds)

    def made(self, kind):
        """The number of a new hole."""
        self.kinds.append(kind)
        return len(self.kinds) - 1


def levels_of(parts, env):
    """The levels of the binders whose long forms the parts are, under their environment."""
    return [closure(part, env) for part in parts]


def own_head(head, places, inner, base):
    """A head as it stands in a value, or None if it is a binder that the value has not.

    Of the inner binders around the head those from the level base on are own ones of the term; places tells which
    arguments of the hole the others are.
    """
    if head[0] != "b":
        return head
    level = inner - 1 - head[1]
    if level >= base:
        return head
    if level not in places:
        return None
    return ("b", inner - base + len(places) - 1 - places[level])


class Filler:
    """What holes are filled with, those that were filled before and those that are in solving some equations."""

    def __init__(self, holes, filling):
        self.holes = holes
        self.filling = filling
        self.found = []
        self.seen = 0
        self.nodes = 0

    def fill(self, hole, term):
        """Fill the hole with the term."""
        if not self.found:
            # The states of a search share the filling that was there before.
            self.filling = dict(self.filling)
        self.found.append(hole)
        self.filling[hole] = term

    def look(self):
        """Count a node that is looked at."""
        self.seen += 1
        if self.seen > MOST_SEEN:
            raise LimitError("the terms of equations have too many nodes")

    def spend(self, deep):
        """Count a node of a value, within so many terms."""
        self.look()
        self.nodes += 1
        if self.nodes > MOST_NODES or deep > MOST_DEEP:
            raise LimitError("what holes are filled with is too large")

    def narrow(self, hole, at):
        """Fill the hole with a new one that gets its arguments at these indexes alone, and return the new one."""
        own, sort = self.holes.kinds[hole]
        new = self.holes.made((tuple([own[j] for j in at]), sort))
        self.fill(hole, kept_binders(own, new, at))
        return new

    def redirect(self, hole, new, at):
        """Fill the hole with another one that gets its arguments at these indexes."""
        self.fill(hole, kept_binders(self.holes.kinds[hole][0], new, at))

    def meet(self, hole, own, other, others):
        """Solve the equation of two holes with the binders of these levels as parts."""
        if hole == other:
            at = [j for j in range(len(own)) if own[j] == others[j]]
            if len(at) < len(own):
                self.narrow(hole, at)
            return
        within = all([level in others for level in own])
        around = all([level in own for level in others])
        # Of two holes with the same binders the newer one is filled: otherwise a hole that is handed on from rule to
        # rule would have to be followed through all of them.
        if within and (hole < other or not around):
            self.redirect(other, hole, [others.index(level) for level in own])
        elif around:
            self.redirect(hole, other, [own.index(level) for level in others])
        else:
            at = [j for j in range(len(own)) if own[j] in others]
            self.redirect(other, self.narrow(hole, at), [others.index(own[j]) for j in at])

    def fits(self, hole, parts, env, places, base):
        """Whether all parts of an inner hole may stand in a value; otherwise the hole is narrowed to those that may."""
        levels = levels_of(parts, env)
        at = [j for j in range(len(levels)) if levels[j] >= base or levels[j] in places]
        if len(at) == len(levels):
            return True
        self.narrow(hole, at)
        return False

    def value_for(self, hole, levels, side, level):
        """The value of a hole that has the binders of these levels as its parts where it is to be the side, or None.

        The side is a pair of a term and its environment, its head is no hole, and level binders are around it.
        """
        places = {levels[j]: j for j in range(len(levels))}
        base = level + side[0][0]
        rows = []
        todo = [(side[0], side[1], level, 1)]
        while todo:
            term, env, level, deep = todo.pop()
            n, head, parts, inner_env, inner = node_under(term, env, level, self.filling)
            if head[0] == "h":
                if head[1] == hole:
                    return None
                if not self.fits(head[1], parts, inner_env, places, base):
                    todo.append((term, env, level, deep))
                    continue
            head = own_head(head, places, inner, base)
            if head is None:
                return None
            self.spend(deep)
            rows.append((n, head, len(parts)))
            todo.extend([(part, inner_env, inner, deep + 1) for part in reversed(parts)])
        rows[0] = (len(levels),) + rows[0][1:]
        return built(rows)

    def give(self, node, against, side, level):
        """Whether an equation can be solved one of whose sides, with this first node, has a hole as its head.

        The other side has the first node against; it is a pair of a term and its environment.
        """
        hole = node[1][1]
        levels = levels_of(node[2], node[3])
        if against[1][0] == "h":
            self.meet(hole, levels, against[1][1], levels_of(against[2], against[3]))
            return True
        value = self.value_for(hole, levels, side, level)
        if value is None:
            return False
        self.fill(hole, value)
        return True

    def solve(self, equations, level):
        """Whether the equations can be solved; then holes are filled so that they are.

        Each equation is a pair of two pairs of a term and its environment, and level binders are around all of them.
        """
        todo = [(left, right, level) for left, right in reversed(equations)]
        while todo:
            left, right, level = todo.pop()
            self.look()
            first = node_under(left[0], left[1], level, self.filling)
            second = node_under(right[0], right[1], level, self.filling)
            if first[1][0] == "h":
                good = self.give(first, second, right, level)
            elif second[1][0] == "h":
                good = self.give(second, first, left, level)
            else:
                good = first[1] == second[1]
                _, _, parts, env, inner = first
                _, _, others, other_env, _ = second
                # The heads of two other terms need not have as many parts.
                if good:
                    pairs = [((parts[j], env), (others[j], other_env), inner) for j in range(len(parts))]
                    todo.extend(list(reversed(pairs)))
            if not good:
                return False
        return True

    def told(self):
        """What the holes were filled with in solving, by their numbers, with no hole in it that is filled."""
        return {hole: term_under(self.filling[hole], (), 0, self.filling, MOST_NODES)[0] for hole in self.found}


class Solver:
    """Solves the equations of a search."""

    def solution(self, holes, filling, prefix, rows):
        """What holes are filled with, by their numbers, so that the equations are solved, or None.

        The prefix is that of all the equations; each is told as a triple of its type and, for both sides, the pair of
        a term and its environment.
        """
        filler = Filler(holes, filling)
        pairs = [(left, right) for _, left, right in rows]
        return filler.told() if filler.solve(pairs, len(prefix)) else None
