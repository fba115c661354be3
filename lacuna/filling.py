"""Opening terms and filling holes (points 15, 16, 18 and 19)."""

from lacuna.errors import LimitError
from lacuna.terms import MOST, MOST_DEEP, are_terms, folded, lifted, long_head, long_hole, places

# A weighed term is a triple of a term, the number of its nodes, and how many terms stand within one another.


def weighed_node(n, head, parts):
    """The weighed term with weighed parts."""
    nodes = 1 + sum([part[1] for part in parts])
    deep = 1 + max([part[2] for part in parts], default=0)
    if nodes > MOST or deep > MOST_DEEP:
        raise LimitError(f"more than {MOST} nodes, or more than {MOST_DEEP} terms within one another")
    return (n, head, tuple([part[0] for part in parts])), nodes, deep


def opened_under(term, terms, d):
    """The weighed term opened with the terms, where d binders lie between these and the term's own binders."""
    many = len(terms)

    def change(node, inner, parts):
        m, head, _ = node
        between = d + inner
        if head[0] != "b" or head[1] < between:
            return weighed_node(m, head, parts)
        if head[1] >= between + many:
            return weighed_node(m, ("b", head[1] - many), parts)
        return put_in(m, lifted(terms[between + many - 1 - head[1]], between), parts)

    return folded(term, change)


def opened_node(n, term, terms):
    """The weighed term with n own binders whose head and parts are those of the term opened with the terms."""
    # The own binders are those that are opened: none of them lies between.
    told, nodes, deep = opened_under(term, terms, -term[0])
    return (n, told[1], told[2]), nodes, deep


def put_in(n, term, parts):
    """The weighed term with n own binders whose head and parts are those of the term opened with weighed parts."""
    head = long_head(term)
    # Opening the long form of a head gives this head with the parts as they are. Without this short way
    # each of them would be gone through once more for each term around it.
    if head is not None:
        return weighed_node(n, head, parts)
    return opened_node(n, term, [part[0] for part in parts])


def opened(term, terms):
    """The term opened with a tuple of terms."""
    return opened_node(0, term, terms)[0]


def fill(values, term):
    """The term in which the holes are filled with the values."""

    def change(node, inner, parts):
        n, head, _ = node
        if head[0] == "h":
            return put_in(n, values[head[1]], parts)
        return weighed_node(n, head, parts)

    return folded(term, change)[0]


def compose(first, second):
    """The composite of the filling first and the filling second behind it."""
    return tuple([fill(second, value) for value in first])


def unchanged(holes):
    """The filling that changes nothing."""
    return tuple([long_hole(k, holes[k]) for k in range(len(holes))])


def is_filling(signature, old, new, value):
    """Whether any value is a filling from holes with the types old to holes with the types new."""
    return type(value) is tuple and are_terms(signature, new, (), old, value)


def binders_of(parts):
    """The numbers of the binders whose long forms the parts are."""
    return [long_head(part)[1] for part in parts]


def first_parts(values):
    """The parts of each hole at its first place, by its number, in the order of these places."""
    found = {}
    for value in values:
        for node, _ in places(value):
            if node[1][0] == "h":
                found.setdefault(node[1][1], node[2])
    return found


def falling(parts):
    """The indexes of the parts, long forms of binders, in the order in which the binders' numbers fall."""
    numbers = binders_of(parts)
    rows = sorted([(numbers[j], j) for j in range(len(parts))], reverse=True)
    return [j for _, j in rows]


def reordered(row, order):
    """The tuple of what the row has at the indexes of the order."""
    return tuple([row[j] for j in order])


def tidy_orders(values):
    """For each hole that occurs, in the order of the first places, the order of its parts that is tidy."""
    found = first_parts(values)
    return {k: falling(found[k]) for k in found}


def tidy_kinds(new, orders):
    """The types of the holes that occur, tidy."""
    return tuple([(reordered(new[k][0], orders[k]), new[k][1]) for k in orders])


def tidy_term(term, orders):
    """The term with its holes numbered, and their parts ordered, as is tidy."""
    ranks = {k: rank for rank, k in enumerate(orders)}

    def change(node, inner, parts):
        n, head, _ = node
        if head[0] == "h":
            return (n, ("h", ranks[head[1]]), reordered(parts, orders[head[1]]))
        return (n, head, tuple(parts))

    return folded(term, change)


def tidied(signature, old, new, values):
    """The pair of the types and the values of the tidy filling for a filling that is a pattern."""
    orders = tidy_orders(values)
    return tidy_kinds(new, orders), tuple([tidy_term(value, orders) for value in values])


def uses_only(term, numbers):
    """Whether the term uses no binders of its place, its own ones among these, but those with the numbers."""
    for node, inner in places(term):
        between = inner - term[0]
        sign, mark = node[1]
        if sign == "b" and mark >= between and mark - between not in numbers:
            return False
    return True


def bound(term, numbers):
    """The value of a hole that has the binders with these numbers as its parts where the term comes of it.

    It is None if the term uses another binder of its place: a value has them through its arguments alone.
    """
    if not uses_only(term, numbers):
        return None
    own = {numbers[j]: len(numbers) - 1 - j for j in range(len(numbers))}

    def change(node, inner, parts):
        n, head, _ = node
        between = inner - term[0]
        if head[0] == "b" and head[1] >= between:
            head = ("b", own[head[1] - between] + between)
        return (n, head, tuple(parts))

    told = folded(term, change)
    return (len(numbers), told[1], told[2])


def more_of(signature, old, new, values, others):
    """The filling behind the tidy filling values that makes others of it, or None if there is none."""
    found = {}
    todo = list(zip(values, others))
    while todo:
        (_, head, parts), other = todo.pop()
        if head[0] == "h":
            value = bound(other, binders_of(parts))
            if value is None or found.setdefault(head[1], value) != value:
                return None
        elif head != other[1]:
            return None
        else:
            todo.extend(list(zip(parts, other[2])))
    return tuple([found[k] for k in range(len(new))])
