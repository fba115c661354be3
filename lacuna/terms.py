"""Types and terms (points 3, 10 to 14 and 17)."""

MOST = 2000
MOST_DEEP = 100

RESERVED = (
    "con", "rule", "ask", "if", "true", "some", "all", "given", "same", "match", "steps", "many", "height",
)
LETTERS = "abcdefghijklmnopqrstuvwxyz"
FORMULAS = "o"


def is_name(value):
    """Whether any value is a name."""
    if type(value) is not str or not 1 <= len(value) <= 8:
        return False
    return value not in RESERVED and all([letter in LETTERS for letter in value])


def is_pair(value):
    """Whether any value is a tuple of two."""
    return type(value) is tuple and len(value) == 2


def is_index(value):
    """Whether any value is an integer that is not negative; True and False are none."""
    return type(value) is int and value >= 0


def has_type_form(value):
    """Whether any value is a type as far as one sees without looking into its arguments."""
    return is_pair(value) and type(value[0]) is tuple and is_name(value[1])


def is_type(value):
    """Whether any value is a type."""
    if not has_type_form(value):
        return False
    todo = list(value[0])
    while todo:
        argument = todo.pop()
        if not has_type_form(argument) or argument[1] == FORMULAS:
            return False
        todo.extend(argument[0])
    return True


def is_kind(value):
    """Whether any value is a type that something else than a constant may have."""
    return is_type(value) and value[1] != FORMULAS


def are_kinds(value):
    """Whether any value is a tuple of types that something else than a constant may have."""
    return type(value) is tuple and all([is_kind(kind) for kind in value])


def takes_sorts(kind):
    """Whether all arguments of a type are sorts."""
    return all([not argument[0] for argument in kind[0]])


def copies_well(signature):
    """Whether each argument of a constant that is no predicate has sorts alone as its own arguments."""
    kinds = [kind for _, kind in signature if kind[1] != FORMULAS]
    return all([takes_sorts(argument) for kind in kinds for argument in kind[0]])


def is_signature(value):
    """Whether any value is a signature."""
    if type(value) is not tuple:
        return False
    names = []
    for entry in value:
        if not is_pair(entry) or not is_name(entry[0]) or not is_type(entry[1]):
            return False
        names.append(entry[0])
    return len(set(names)) == len(names)


def head_kind(constants, holes, binders, head):
    """The type of any value as a head, or None if it is none; binders are all those of the place."""
    if not is_pair(head):
        return None
    sign, mark = head
    if sign == "c" and type(mark) is str:
        return constants.get(mark)
    # A negative number must not count from the end of a tuple.
    if not is_index(mark):
        return None
    if sign == "b" and mark < len(binders):
        return binders[len(binders) - 1 - mark]
    if sign == "h" and mark < len(holes):
        return holes[mark]
    return None


def has_term_form(value, n):
    """Whether any value is a term with n own binders as far as one sees without its head and its parts."""
    if type(value) is not tuple or len(value) != 3:
        return False
    return is_index(value[0]) and value[0] == n and type(value[2]) is tuple


def is_term(signature, holes, prefix, kind, value):
    """Whether any value is a term of the type kind in the prefix."""
    constants = dict(signature)
    todo = [(prefix, kind, value)]
    while todo:
        outer, (arguments, sort), term = todo.pop()
        if not has_term_form(term, len(arguments)):
            return False
        binders = outer + arguments
        needed = head_kind(constants, holes, binders, term[1])
        if needed is None or needed[1] != sort or len(needed[0]) != len(term[2]):
            return False
        todo.extend([(binders, needed[0][j], term[2][j]) for j in range(len(needed[0]))])
    return True


def are_terms(signature, holes, prefix, kinds, values):
    """Whether any values, in a tuple, are terms of the types in the prefix, one by one."""
    if len(kinds) != len(values):
        return False
    return all([is_term(signature, holes, prefix, kinds[j], values[j]) for j in range(len(kinds))])


def places(term):
    """The nodes in the order of reading, each with the number of binders from the term's own to its own."""
    # No recursion here and in folded: terms may be deep, and opening one goes into the terms it puts in.
    found = []
    todo = [(term, 0)]
    while todo:
        node, outer = todo.pop()
        inner = outer + node[0]
        found.append((node, inner))
        for part in reversed(node[2]):
            todo.append((part, inner))
    return found


def folded(term, change):
    """What comes of the term if change(node, inner, parts) tells what comes of each node.

    Here inner is the number that places tells, and parts is the list of what came of the node's parts.
    """
    done = []
    for node, inner in reversed(places(term)):
        # The order of reading backwards: what came of the first part was put last.
        parts = [done.pop() for _ in node[2]]
        done.append(change(node, inner, parts))
    return done[0]


def size(term):
    """The number of nodes."""
    return len(places(term))


def depth(term):
    """How many terms stand within one another."""
    return folded(term, lambda node, inner, parts: 1 + max(parts, default=0))


def is_same(left, right):
    """Whether two terms are equal; for those that Python's own comparison would take too deep."""
    todo = [(left, right)]
    while todo:
        (n, head, parts), (m, other, others) = todo.pop()
        if n != m or head != other or len(parts) != len(others):
            return False
        todo.extend(list(zip(parts, others)))
    return True


def raised_head(head, k):
    """The head with k added to its number if it is a binder."""
    if head[0] == "b":
        return ("b", head[1] + k)
    return head


def lifted_under(term, k, d):
    """The term lifted by k, where d binders around it count as own ones."""
    if k == 0:
        return term

    def change(node, inner, parts):
        n, head, _ = node
        if head[0] == "b" and head[1] >= d + inner:
            head = raised_head(head, k)
        return (n, head, tuple(parts))

    return folded(term, change)


def lifted(term, k):
    """The term lifted by k."""
    return lifted_under(term, k, 0)


def long_form(head, kind):
    """The long form of a head, told from outside of the own binders, of the type kind."""
    n = len(kind[0])
    return (n, raised_head(head, n), long_row(kind[0]))


def long_row(binders):
    """The long forms of all binders with these types, outermost first, in the prefix of these."""
    return tuple([long_form(("b", len(binders) - 1 - j), binders[j]) for j in range(len(binders))])


def long_binder(i, kind):
    """The long form of the binder i."""
    return long_form(("b", i), kind)


def long_hole(k, kind):
    """The long form of the hole k."""
    return long_form(("h", k), kind)


def is_long(term, head):
    """Whether the term is the long form of the head, told from outside of the own binders."""
    # In a term that has a type, this holds only if the head has that same type: its arguments are
    # those of the own binders, one by one.
    n, own_head, parts = term
    if own_head != raised_head(head, n) or len(parts) != n:
        return False
    return all([is_long(parts[j], ("b", n - 1 - j)) for j in range(n)])


def long_head(term):
    """The head whose long form the term is, told from outside of the own binders, or None."""
    # No own binder comes out as this head: it would be among its own arguments, which no type allows.
    head = raised_head(term[1], -term[0])
    return head if is_long(term, head) else None


def is_binder_row(parts):
    """Whether the parts are the long forms of different binders."""
    heads = [long_head(part) for part in parts]
    if not all([head is not None and head[0] == "b" for head in heads]):
        return False
    return len(set(heads)) == len(heads)


def has_pattern_form(term):
    """Whether a term is a pattern; its type plays no part."""
    nodes = [node for node, _ in places(term)]
    return all([is_binder_row(node[2]) for node in nodes if node[1][0] == "h"])


def is_pattern(signature, holes, prefix, kind, term):
    """Whether a term of the type kind in the prefix is a pattern."""
    return has_pattern_form(term)
