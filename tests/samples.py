"""Terms to try the program with, and what the document says of them, told in another way than the program does.

Nothing here imports the program: a term is opened and filled by taking terms for functions of Python.
"""

from random import Random

A = ((), "a")
B = ((), "b")
O = ((), "o")
AA = ((A,), "a")
AAA = ((A, A), "a")
BA = ((B,), "a")
FA = ((AA,), "a")            # nested 3 deep
FAA = ((AA, A), "a")
GA = ((FA,), "a")            # nested 4 deep
FIVE = ((A,) * 5, "a")

SIGNATURE = (
    ("c", A), ("d", B), ("s", AA), ("f", AAA), ("g", ((B, A), "b")), ("lam", FA), ("o", A), ("five", FIVE),
    ("it", FAA), ("high", GA), ("k", ((AA, B), "b")), ("pred", ((A,), "o")), ("truth", O),
)

C = (0, ("c", "c"), ())
D = (0, ("c", "d"), ())

KINDS = (A, B, AA, AAA, BA, FA, FAA, ((B, AA), "b"), ((FA, A), "a"), GA, ((FAA, A), "b"))


def b(i, *parts):
    return (0, ("b", i), parts)


def c(name, *parts):
    return (0, ("c", name), parts)


def h(k, *parts):
    return (0, ("h", k), parts)


def bound(n, term):
    """The term with n own binders in the place of none."""
    return (n, term[1], term[2])


def chain(n, end=C):
    """A term with n times s around the end."""
    for _ in range(n):
        end = c("s", end)
    return end


def bush(n):
    """A term of the sort a with n nodes that is not deep."""
    if n < 6:
        return chain(n - 1)
    shares = [(n - 1) // 5] * 5
    shares[4] += (n - 1) % 5
    return c("five", *[bush(share) for share in shares])


def nodes(term):
    return 1 + sum(nodes(part) for part in term[2])


def depth(term):
    return 1 + max((depth(part) for part in term[2]), default=0)


def subterms(term):
    """The nodes in the order of reading."""
    found = [term]
    for part in term[2]:
        found += subterms(part)
    return found


def kind_of_head(signature, holes, binders, head):
    """The type of a head; binders outermost first."""
    if head[0] == "c":
        return dict(signature)[head[1]]
    if head[0] == "h":
        return holes[head[1]]
    return binders[len(binders) - 1 - head[1]]


def is_typed(signature, holes, prefix, kind, term):
    """Point 12 for what has the form of a term."""
    n, head, parts = term
    binders = prefix + kind[0]
    if n != len(kind[0]):
        return False
    if head[0] == "c" and head[1] not in dict(signature):
        return False
    if head[0] == "h" and head[1] >= len(holes) or head[0] == "b" and head[1] >= len(binders):
        return False
    needed, sort = kind_of_head(signature, holes, binders, head)
    if sort != kind[1] or len(needed) != len(parts):
        return False
    return all(is_typed(signature, holes, binders, needed[j], parts[j]) for j in range(len(parts)))


def is_plain_data(value):
    """Whether a value is of Python's own tuples, integers, strings, True, False and None alone."""
    if type(value) is tuple:
        return all(is_plain_data(part) for part in value)
    return value is None or type(value) in (int, str, bool)


# Meanings: a term with own binders is a function of Python, one without is a Stuck.

class Stuck:
    def __init__(self, head, kinds, values):
        self.head = head
        self.kinds = kinds
        self.values = values


def reflect(head, kind):
    if not kind[0]:
        return Stuck(head, (), ())
    return lambda *values: Stuck(head, kind[0], values)


def meaning(signature, told_holes, around, term):
    """The meaning of a term; around has the meanings of the binders, innermost first."""
    n, head, parts = term

    def body(*own):
        scope = list(reversed(own)) + around
        if head[0] == "b":
            told = scope[head[1]]
        elif head[0] == "h":
            told = told_holes[head[1]]
        else:
            told = reflect(head, dict(signature)[head[1]])
        return told(*[meaning(signature, told_holes, scope, part) for part in parts]) if parts else told

    return body if n else body()


def reify(kind, told, level):
    """The term of a meaning, with the given number of binders around it."""
    n = len(kind[0])
    own = [reflect(("level", level + j), kind[0][j]) for j in range(n)]
    stuck = told(*own) if n else told
    inner = level + n
    head = stuck.head
    if head[0] == "level":
        head = ("b", inner - 1 - head[1])
    parts = [reify(kind, value, inner) for kind, value in zip(stuck.kinds, stuck.values)]
    return (n, head, tuple(parts))


def names_of(prefix):
    return [reflect(("level", i), prefix[i]) for i in reversed(range(len(prefix)))]


def told_unfilled(holes):
    return [reflect(("h", k), holes[k]) for k in range(len(holes))]


def expected_opened(signature, holes, prefix, kind, term, terms):
    told_holes = told_unfilled(holes)
    around = names_of(prefix)
    told = meaning(signature, told_holes, around, term)
    if kind[0]:
        told = told(*[meaning(signature, told_holes, around, part) for part in terms])
    return reify(((), kind[1]), told, len(prefix))


def expected_fill(signature, new, values, prefix, kind, term):
    told_new = told_unfilled(new)
    told_holes = [meaning(signature, told_new, [], value) for value in values]
    return reify(kind, meaning(signature, told_holes, names_of(prefix), term), len(prefix))


def long(head, kind, level):
    """The long form of a head: the term of its meaning."""
    if head[0] == "b":
        head = ("level", level - 1 - head[1])
    return reify(kind, reflect(head, kind), level)


def mapped(term, change, inner=0):
    """The term with change(head, inner) as heads, where inner counts the binders up to the node's own ones."""
    inner += term[0]
    return (term[0], change(term[1], inner), tuple(mapped(part, change, inner) for part in term[2]))


def expected_lifted(term, k):
    def change(head, inner):
        return ("b", head[1] + k) if head[0] == "b" and head[1] >= inner else head
    return mapped(term, change)


# Random terms, the same ones in each run.

def heads(signature, holes, binders, sort):
    found = [(("c", name), kind) for name, kind in signature]
    found += [(("h", k), holes[k]) for k in range(len(holes))]
    found += [(("b", i), binders[len(binders) - 1 - i]) for i in range(len(binders))] * 2
    return [(head, kind) for head, kind in found if kind[1] == sort]


def any_term(rng, holes, prefix, kind, fuel, signature=SIGNATURE):
    """A term of the type kind in the prefix, the smaller the less fuel there is."""
    binders = prefix + kind[0]
    choice = heads(signature, holes, binders, kind[1])
    if fuel <= 0:
        choice = [row for row in choice if not row[1][0]] or choice
    head, (needed, _) = rng.choice(choice)
    parts = [any_term(rng, holes, binders, part, fuel - 1 - rng.randrange(2), signature) for part in needed]
    return (len(kind[0]), head, tuple(parts))


def any_small(rng, holes, prefix, kind, most=40):
    """A term with at most so many nodes."""
    while True:
        term = any_term(rng, holes, prefix, kind, rng.randrange(5))
        if nodes(term) <= most:
            return term


def any_kinds(rng, most):
    return tuple(rng.choice(KINDS) for _ in range(rng.randrange(most + 1)))


def any_pattern(rng, holes, prefix, kind, fuel, own_holes=True):
    """A term of the type kind that is a pattern; new holes are put behind those in the list holes."""
    binders = prefix + kind[0]
    n = len(kind[0])
    if own_holes and rng.randrange(3) == 0:
        rows = [(k, binders_for(rng, holes[k], binders)) for k in range(len(holes)) if holes[k][1] == kind[1]]
        rows = [(k, numbers) for k, numbers in rows if numbers is not None]
        if rows and rng.randrange(2):
            k, numbers = rng.choice(rows)
            return (n, ("h", k), long_row(numbers, binders))
        if len(holes) < 12:
            numbers = rng.sample(range(len(binders)), rng.randrange(min(5, len(binders)) + 1))
            holes.append((tuple(binders[len(binders) - 1 - i] for i in numbers), kind[1]))
            return (n, ("h", len(holes) - 1), long_row(numbers, binders))
    choice = heads(SIGNATURE, (), binders, kind[1])
    if fuel <= 0:
        choice = [row for row in choice if not row[1][0]]
    head, (needed, _) = rng.choice(choice)
    return (n, head, tuple(any_pattern(rng, holes, binders, part, fuel - 1, own_holes) for part in needed))


def binders_for(rng, kind, binders):
    """The numbers of different binders with the types of a hole's arguments, or None."""
    numbers = []
    for part in kind[0]:
        rows = [i for i in range(len(binders)) if binders[len(binders) - 1 - i] == part and i not in numbers]
        if not rows:
            return None
        numbers.append(rng.choice(rows))
    return numbers


def long_row(numbers, binders):
    return tuple(long(("b", i), binders[len(binders) - 1 - i], len(binders)) for i in numbers)


def any_pattern_filling(rng, old):
    """A filling that is a pattern, with the types of its holes; some of these need not occur."""
    holes = list(any_kinds(rng, 1))
    values = tuple(any_pattern(rng, holes, (), kind, rng.randrange(4)) for kind in old)
    return tuple(holes), values


def random_numbers(seed):
    return Random(seed)
