"""Equations to try the program with, and what points 20 to 24 and 30 to 35 say of them, told by their words.

Nothing here imports the program: terms are filled as in samples.py, and nothing is kept or counted.
"""

from tests.samples import (
    A, AA, AAA, B, SIGNATURE, any_term, expected_fill, kind_of_head, long, mapped, nodes, subterms,
)

# A signature in which arguments of constants have sorts alone as arguments.
SECOND = (
    ("c", A), ("d", B), ("s", AA), ("f", AAA), ("g", ((B, A), "b")), ("lam", ((AA,), "a")), ("o", A),
    ("k", ((AAA, B), "b")), ("pred", ((((AA,), "a"),), "o")),
)


def number_of(part, level):
    """The number of the binder whose long form the part is, as far as its head tells."""
    return part[1][1] - part[0] if part[1][0] == "b" else None


def is_long_of(part, binders):
    """The number of the binder whose long form the part is, or None; binders outermost first."""
    i = number_of(part, len(binders))
    if i is None or not 0 <= i < len(binders):
        return None
    return i if part == long(("b", i), binders[len(binders) - 1 - i], len(binders)) else None


def is_pattern_place(binders, parts):
    numbers = [is_long_of(part, binders) for part in parts]
    return None not in numbers and len(set(numbers)) == len(numbers)


def typed_places(signature, holes, prefix, kind, term):
    """Each node with the types of the binders of its place."""
    n, head, parts = term
    binders = prefix + kind[0]
    found = [(binders, term)]
    needed = kind_of_head(signature, holes, binders, head)[0]
    for part_kind, part in zip(needed, parts):
        found += typed_places(signature, holes, binders, part_kind, part)
    return found


def has_patterns(signature, holes, prefix, kind, term):
    found = typed_places(signature, holes, prefix, kind, term)
    return all(is_pattern_place(binders, node[2]) for binders, node in found if node[1][0] == "h")


class Words:
    """A state by the words of point 22; old are the types of the problem's holes."""

    def __init__(self, signature, old, holes, filling, equations):
        self.signature = signature
        self.old = old
        self.holes = holes
        self.filling = filling
        self.equations = equations          # rows (prefix, kind, left, right, in hand), or None at a clash


def simplify(signature, holes, equations):
    """Point 21, one replacement at a time; equations with a fifth entry keep it."""
    equations = list(equations)
    while True:
        for at, equation in enumerate(equations):
            prefix, (arguments, sort), left, right = equation[:4]
            more = tuple(equation[4:])
            if arguments:
                bare = [(0, side[1], side[2]) for side in (left, right)]
                equations[at:at + 1] = [(prefix + arguments, ((), sort)) + tuple(bare) + more]
                break
            if left == right:
                equations[at:at + 1] = []
                break
            if left[1][0] != "h" and right[1][0] != "h":
                if left[1] != right[1]:
                    return None
                needed = kind_of_head(signature, holes, prefix, left[1])[0]
                equations[at:at + 1] = [(prefix, needed[j], left[2][j], right[2][j]) + more for j in range(len(needed))]
                break
        else:
            return equations


def begin(problem):
    """The first state."""
    signature, holes, equations = problem
    filling = tuple(long(("h", k), holes[k], 0) for k in range(len(holes)))
    equations = simplify(signature, holes, [tuple(equation) + (False,) for equation in equations])
    return Words(signature, holes, holes, filling, equations)


def fill_words(state, fills, kinds, taken):
    """The state that comes of filling some holes, with new holes of these types behind the others."""
    new = state.holes + kinds
    values = tuple(fills.get(k, long(("h", k), new[k], 0)) for k in range(len(state.holes)))

    def done(prefix, kind, term):
        return expected_fill(state.signature, new, values, prefix, kind, term)

    filling = tuple(done((), kind, value) for value, kind in zip(state.filling, state.old))
    rows = []
    for k, (prefix, kind, left, right, hand) in enumerate(state.equations):
        rows.append((prefix, kind, done(prefix, kind, left), done(prefix, kind, right), hand or k == taken))
    return Words(state.signature, state.old, new, filling, simplify(state.signature, new, rows))


def occurs(h, term):
    return any(node[1] == ("h", h) for node in subterms(term))


def allowed(state):
    """The steps that a state allows."""
    found = []
    hands = [k for k, equation in enumerate(state.equations) if equation[4]]
    for k, (prefix, kind, left, right, _) in enumerate(state.equations):
        if hands and k not in hands:
            continue
        sides = (left, right)
        if not all(has_patterns(state.signature, state.holes, prefix, kind, side) for side in sides):
            assert not hands
            continue
        if left[1][0] == "h" and right[1][0] == "h":
            found.append(("meet", k))
            continue
        for side in (0, 1):
            me, other = sides[side], sides[1 - side]
            if me[1][0] != "h" or other[1][0] == "h":
                continue
            numbers = [is_long_of(part, prefix) for part in me[2]]
            known = other[1][0] == "c" or other[1][1] in numbers
            if occurs(me[1][1], other):
                found.append(("round", k, side))
            elif known:
                found.append(("copy", k, side))
            if not known:
                found.append(("out", k, side))
    return found


def copy_words(state, h, head, needed):
    own = state.holes[h][0]
    kinds = tuple((own + u[0], u[1]) for u in needed)
    parts = []
    for j, u in enumerate(needed):
        binders = own + u[0]
        row = tuple(long(("b", len(binders) - 1 - i), binders[i], len(binders)) for i in range(len(binders)))
        parts.append((len(u[0]), ("h", len(state.holes) + j), row))
    return {h: (len(own), head, tuple(parts))}, kinds


def give(own, new, places):
    p = len(own)
    return (p, ("h", new), tuple(long(("b", p - 1 - j), own[j], p) for j in places))


def step_words(state, step):
    """The state behind copy or meet."""
    prefix, _, left, right, _ = state.equations[step[1]]
    if step[0] == "copy":
        side, other = (left, right) if step[2] == 0 else (right, left)
        h, head = side[1][1], other[1]
        needed = kind_of_head(state.signature, state.holes, prefix, head)[0]
        if head[0] == "b":
            j = [is_long_of(part, prefix) for part in side[2]].index(head[1])
            head = ("b", len(side[2]) - 1 - j)
        fills, kinds = copy_words(state, h, head, needed)
        return fill_words(state, fills, kinds, step[1])
    h, g = left[1][1], right[1][1]
    new = len(state.holes)
    own, sort = state.holes[h]
    if h == g:
        places = [j for j in range(len(own)) if left[2][j] == right[2][j]]
        fills = {h: give(own, new, places)}
    else:
        places = [j for j in range(len(own)) if left[2][j] in right[2]]
        fills = {h: give(own, new, places),
                 g: give(state.holes[g][0], new, [right[2].index(left[2][j]) for j in places])}
    return fill_words(state, fills, ((tuple(own[j] for j in places), sort),), step[1])


def tidy_words(state):
    """The types, and a function that makes terms of the state tidy (point 18)."""
    firsts = {}
    for value, kind in zip(state.filling, state.old):
        for binders, node in typed_places(state.signature, state.holes, (), kind, value):
            if node[1][0] == "h" and node[1][1] not in firsts:
                numbers = [is_long_of(part, binders) for part in node[2]]
                firsts[node[1][1]] = sorted(range(len(numbers)), key=lambda j: -numbers[j])
    ranks = {k: rank for rank, k in enumerate(firsts)}
    types = tuple((tuple(state.holes[k][0][j] for j in firsts[k]), state.holes[k][1]) for k in firsts)

    def change(term):
        n, head, parts = term
        parts = [change(part) for part in parts]
        if head[0] == "h":
            return (n, ("h", ranks[head[1]]), tuple(parts[j] for j in firsts[head[1]]))
        return (n, head, tuple(parts))

    return types, change


def led_to(state):
    """What a row leads to that ends in a state without a clash in which no step is allowed."""
    types, change = tidy_words(state)
    kept = tuple((prefix, kind, change(left), change(right)) for prefix, kind, left, right, _ in state.equations)
    return ("filled", types, tuple(change(value) for value in state.filling), kept)


def follow_words(problem, row):
    """What a row of steps that may be wrong leads to, or None."""
    state = begin(problem)
    for at, step in enumerate(row):
        if state.equations is None or step not in allowed(state):
            return None
        if step[0] in ("out", "round"):
            return ("none",) if at == len(row) - 1 else None
        state = step_words(state, step)
    if state.equations is None:
        return ("none",)
    return None if allowed(state) else led_to(state)


def any_row(rng, problem, most=300):
    """A row of steps, each any one that is allowed, with what it leads to, or None if it becomes too long."""
    state = begin(problem)
    row = []
    while state.equations is not None and allowed(state):
        if len(row) == most or sum(map(nodes, state.filling)) > 600:
            return None
        step = rng.choice(allowed(state))
        row.append(step)
        if step[0] in ("out", "round"):
            return tuple(row), ("none",)
        state = step_words(state, step)
    return tuple(row), ("none",) if state.equations is None else led_to(state)


# Matchings.

def ways_words(state, k):
    prefix, kind, left, right, _ = state.equations[k]
    h = left[1][1]
    own, sort = state.holes[h]
    found = []
    if right[1][0] == "c":
        fills, kinds = copy_words(state, h, right[1], dict(state.signature)[right[1][1]][0])
        found.append(fill_words(state, fills, kinds, k))
    for j in range(len(own)):
        if own[j] == ((), sort):
            found.append(fill_words(state, {h: (len(own), ("b", len(own) - 1 - j), ())}, (), k))
    return found


def any_tree(rng, state, most):
    """A tree for a state, each choice any one, and its answers; IndexError if it has more than the list most."""
    most.pop()
    if state.equations is None:
        return ("clash",), []
    if not state.equations:
        types, change = tidy_words(state)
        return ("answer",), [(types, tuple(change(value) for value in state.filling))]
    k = rng.randrange(len(state.equations))
    told = [any_tree(rng, after, most) for after in ways_words(state, k)]
    return ("choose", k, tuple(tree for tree, _ in told)), [answer for _, found in told for answer in found]


def in_order(answers):
    return sorted(answers, key=lambda answer: [node[1] for value in answer[1] for node in subterms(value)])


# Problems that have a solution.

class Maker:
    """Makes equations over holes whose values, terms without holes, are known."""

    def __init__(self, rng, signature=SIGNATURE):
        self.rng = rng
        self.signature = signature
        self.holes = []
        self.values = []

    def add(self, kind, fuel):
        """One more hole, with any value."""
        self.holes.append(kind)
        self.values.append(any_term(self.rng, (), (), kind, fuel, self.signature))

    def hole(self, binders, sort, term):
        """A place with a hole as head, whose parts are binders, that becomes the term of the sort when filled."""
        used = set()

        def look(head, inner):
            if head[0] == "b" and head[1] >= inner:
                used.add(head[1] - inner)
            return head

        mapped(term, look)
        rest = [i for i in range(len(binders)) if i not in used]
        extra = self.rng.sample(rest, min(len(rest), self.rng.randrange(3)))
        numbers = sorted(used) + extra
        self.rng.shuffle(numbers)
        types = [binders[len(binders) - 1 - i] for i in numbers]
        if len(types) > 5:
            return None
        places = {i: len(numbers) - 1 - j for j, i in enumerate(numbers)}

        def change(head, inner):
            return ("b", places[head[1] - inner] + inner) if head[0] == "b" and head[1] >= inner else head

        value = mapped(term, change)
        value = (len(numbers), value[1], value[2])
        k = self.number_of(value, (tuple(types), sort))
        if k is None:
            return None
        parts = tuple(long(("b", i), binders[len(binders) - 1 - i], len(binders)) for i in numbers)
        return (0, ("h", k), parts)

    def number_of(self, value, kind):
        rows = [k for k in range(len(self.holes)) if self.values[k] == value and self.holes[k] == kind]
        if rows and self.rng.randrange(4):
            return self.rng.choice(rows)
        if len(self.holes) == 12:
            return None
        self.holes.append(kind)
        self.values.append(value)
        return len(self.holes) - 1

    def vague(self, prefix, kind, term, often=4):
        """A pattern that becomes the term when filled."""
        binders = prefix + kind[0]
        n, head, parts = term
        if self.rng.randrange(often) == 0:
            hole = self.hole(binders, kind[1], (0, head, parts))
            if hole is not None:
                return (n, hole[1], hole[2])
        needed = kind_of_head(self.signature, (), binders, head)[0]
        told = tuple(self.vague(binders, needed[j], parts[j], often) for j in range(len(parts)))
        return (n, head, told)

    def blurred(self, prefix, kind):
        """Any term with the holes there are, and what it is when filled, or None."""
        for _ in range(20):
            term = any_term(self.rng, tuple(self.holes), prefix, kind, self.rng.randrange(1, 4), self.signature)
            target = expected_fill(self.signature, (), tuple(self.values), prefix, kind, term)
            if nodes(target) <= 40 and nodes(term) <= 40:
                return term, target
        return None
