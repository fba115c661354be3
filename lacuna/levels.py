"""Problems with levels (points 60 to 62)."""

from lacuna.binding import Binder
from lacuna.errors import LimitError, NotPattern
from lacuna.filling import tidied
from lacuna.store import Raiser, Store
from lacuna.terms import MOST, MOST_DEEP, depth, folded, long_binder, long_head, long_hole, places


def raised_term(term, names, holes):
    """The raised form of a term, in the prefix of the names."""
    many = len(names)

    def change(node, inner, parts):
        n, (sign, mark), _ = node
        if sign == "n":
            return n, ("b", inner + many - mark), tuple(parts)
        if sign == "h":
            # The name 1 is the outermost binder.
            parts = [long_binder(inner + many - 1 - j, names[j]) for j in range(holes[mark][0])] + parts
        return n, (sign, mark), tuple(parts)

    return folded(term, change)


def raised(signature, problem):
    """The raised form of a problem with levels."""
    names, holes, equations = problem
    kinds = tuple([(names[:level] + arguments, sort) for level, (arguments, sort) in holes])
    found = []
    for kind, left, right in equations:
        found.append((names, kind, raised_term(left, names, holes), raised_term(right, names, holes)))
    return signature, kinds, tuple(found)


def is_pattern_row(parts, level):
    """Whether the parts of a hole of the level are long forms of different binders, and names above the level."""
    heads = [long_head(part) for part in parts]
    for head in heads:
        if head is None or head[0] not in ("b", "n") or (head[0] == "n" and head[1] <= level):
            return False
    return len(set(heads)) == len(heads)


def are_patterns(holes, term):
    """Whether the parts of all holes in the term are as a problem of patterns has them."""
    nodes = [node for node, _ in places(term)]
    return all([is_pattern_row(parts, holes[head[1]][0]) for _, head, parts in nodes if head[0] == "h"])


def stored_term(term, cells):
    """The term as it stands in a store with these cells for the holes."""

    def change(node, inner, parts):
        n, (sign, mark), _ = node
        if sign == "n":
            mark = mark - 1
        elif sign == "h":
            mark = cells[mark]
        return n, (sign, mark), tuple(parts)

    return folded(term, change)


def raised_value(raiser, cell, level):
    """The value of a raised hole of the level: what is in the cell, below the names up to this level."""
    n, head, parts = raiser.read((long_hole(cell, cell.kind), ()), level)
    return level + n, head, parts


def solve_levels(signature, problem):
    """The types and values of the raised form, tidy, of a most general filling, or None if there is no filling."""
    names, holes, equations = problem
    for _, left, right in equations:
        if not are_patterns(holes, left) or not are_patterns(holes, right):
            raise NotPattern("not a problem of patterns")
    store = Store()
    cells = [store.cell(names[:level], level, kind) for level, kind in holes]
    rows = []
    for _, left, right in equations:
        rows.append(((stored_term(left, cells), ()), (stored_term(right, cells), ())))
    if not Binder(store).solve(rows, len(names)):
        return None
    raiser = Raiser(MOST)
    # Solving may make the level of a cell lower, but a value has binders for all names that its hole may have.
    values = [raised_value(raiser, cells[k], holes[k][0]) for k in range(len(holes))]
    if max([depth(value) for value in values], default=0) > MOST_DEEP:
        raise LimitError(f"more than {MOST_DEEP} terms within one another")
    return tidied(signature, (), raiser.kinds, values)
