"""Programs and questions to search, and random ones. A case is a program and a question."""

from tests.formulas import class_goal, class_rule
from tests.samples import A, AA, AAA, FA, b, c, chain, h

TRUE = ("true",)
T = ((), "t")
E = ((), "e")
L = ((), "l")
IDENTITY = (1, ("b", 0), ())


def atom(p, *parts):
    return ("atom", p, parts)


def equal(kind, left, right):
    return ("equal", kind, left, right)


def matched(kind, left, right):
    return ("match", kind, left, right)


def both(first, *others):
    """The goals joined by and, to the right."""
    return ("and", first, both(*others)) if others else first


def every(kinds, goal):
    """The goal below an all for each of the types."""
    for kind in reversed(kinds):
        goal = ("all", kind, goal)
    return goal


def rule(types, p, parts, body=TRUE):
    return (types, p, parts, body)


def fact(p, *parts):
    return ((), p, parts, TRUE)


def given(rules, goal):
    return ("given", tuple(rules), goal)


def number(n):
    """The n of plus."""
    return chain(n, c("z"))


PLUS = ((("z", A), ("s", AA), ("plus", ((A, A, A), "o"))),
        (rule((A,), "plus", (c("z"), b(0), b(0))),
         rule((A, A, A), "plus", (c("s", b(2)), b(1), c("s", b(0))), atom("plus", b(2), b(1), b(0)))))

# The typing of point 47.
OF_LAM = ((((T,), "t"), E, E), "of", (c("lam", (1, ("b", 3), (b(0),))), c("arr", b(1), b(0))),
          ("all", T, given([fact("of", b(0), b(2))], atom("of", b(3, b(0)), b(1)))))
OF_APP = ((T, T, E, E), "of", (c("app", b(3), b(2)), b(0)),
          ("and", atom("of", b(3), c("arr", b(1), b(0))), atom("of", b(2), b(1))))
TYPING = ((("lam", ((((T,), "t"),), "t")), ("app", ((T, T), "t")), ("arr", ((E, E), "e")), ("of", ((T, E), "o"))),
          (OF_LAM, OF_APP))

LISTS = ((("nil", L), ("cons", ((A, L), "l")), ("c", A), ("d", A), ("app", ((L, L, L), "o")), ("rev", ((L, L), "o"))),
         (rule((L,), "app", (c("nil"), b(0), b(0))),
          rule((A, L, L, L), "app", (c("cons", b(3), b(2)), b(1), c("cons", b(3), b(0))),
               atom("app", b(2), b(1), b(0))),
          fact("rev", c("nil"), c("nil")),
          rule((A, L, L, L), "rev", (c("cons", b(3), b(2)), b(1)),
               both(atom("rev", b(2), b(0)), atom("app", b(0), c("cons", b(3), c("nil")), b(1))))))


def many_of(names):
    """The list of the constants with these names."""
    told = c("nil")
    for name in reversed(names):
        told = c("cons", c(name), told)
    return told


# For small questions of all kinds.
SMALL = (("c", A), ("d", A), ("e", A), ("s", AA), ("f", AAA), ("lam", ((AA,), "a")), ("p", ((A,), "o")),
         ("q", ((A,), "o")), ("r", ((AA, A), "o")), ("t", ((), "o")), ("two", ((A, A), "o")))

LOOP = (SMALL, (rule((), "t", (), atom("t")),))
GROWING = (SMALL, (fact("p", c("c")), rule((A,), "p", (c("s", b(0)),), atom("p", b(0)))))
WIDE = (SMALL, (rule((A,), "p", (b(0),), atom("p", b(0))), rule((A,), "p", (b(0),), atom("p", b(0)))))
# Each chain of s has a tree of f with so many levels.
DOUBLE = (SMALL, (fact("two", c("c"), c("c")),
                  rule((A, A), "two", (c("s", b(1)), c("f", b(0), b(0))), atom("two", b(1), b(0)))))


def program(*rules):
    return (SMALL, rules)


# What the examples of point 56 ask.
EXAMPLES = (
    (PLUS, ((A, A), atom("plus", h(0), h(1), number(1)))),
    (program(), ((), ("some", A, ("all", A, equal(A, b(0), b(1)))))),
    (program(), ((), ("all", A, ("some", A, equal(A, b(0), b(1)))))),
    (program(), ((AAA, AAA), every((A, A), equal(A, h(0, b(1), b(0)), h(1, b(0), b(1)))))),
    (program(), ((), given([rule((A,), "p", (b(0),), atom("q", b(0)))],
                           both(given([fact("q", c("c"))], atom("p", c("c"))), atom("p", c("d")))))),
    (TYPING, ((E,), atom("of", c("lam", IDENTITY), h(0)))),
    (LOOP, ((), atom("t"))),
    (program(), ((), ("all", AA, ("some", A, matched(A, b(0), c("c")))))),
)

# Lambda terms and questions for their types.
SELF = c("lam", (1, ("c", "app"), (b(0), b(0))))
FIRST = c("lam", (1, ("c", "lam"), ((1, ("b", 1), ()),)))
APPLY = c("lam", (1, ("c", "lam"), ((1, ("c", "app"), (b(1), b(0))),)))

CASES = EXAMPLES + (
    (TYPING, ((E,), atom("of", SELF, h(0)))),
    (TYPING, ((E,), atom("of", FIRST, h(0)))),
    (TYPING, ((E,), atom("of", APPLY, h(0)))),
    (TYPING, ((E, E), both(atom("of", FIRST, h(0)), atom("of", APPLY, h(1))))),
    (LISTS, ((L,), atom("rev", many_of("cdc"), h(0)))),
    (LISTS, ((L, L), atom("app", h(0), h(1), many_of("cddc")))),
    (LISTS, ((L,), both(atom("app", h(0), many_of("d"), many_of("ccd")), atom("rev", h(0), many_of("cc"))))),
    (PLUS, ((A,), atom("plus", number(3), number(2), h(0)))),
    (PLUS, ((A, A, A), atom("plus", h(0), h(1), h(2)))),
    (GROWING, ((A,), atom("p", h(0)))),
    (WIDE, ((A,), atom("p", h(0)))),
    (DOUBLE, ((A,), atom("two", chain(3), h(0)))),
    (DOUBLE, ((A,), atom("two", chain(12), h(0)))),
    # Holes that meet under names, with other parts, and with themselves.
    (program(), ((AAA, AA), every((A, A, A), equal(A, h(0, b(2), b(1)), h(1, b(1)))))),
    (program(), ((AAA, AA), every((A, A, A), equal(A, h(0, b(2), b(1)), h(1, b(0)))))),
    (program(), ((AAA,), every((A, A), equal(A, h(0, b(1), b(0)), h(0, b(0), b(1)))))),
    (program(), ((AAA,), every((A, A), both(equal(A, h(0, b(1), b(0)), h(0, b(0), b(1))), equal(A, h(0, b(0), b(1)),
                                                                                           c("s", b(0))))))),
    (program(), ((AA, AAA), every((A,), both(equal(A, h(0, b(0)), c("f", b(0), c("c"))),
                                            ("all", A, equal(A, h(1, b(1), b(0)), h(0, b(1)))))))),
    (program(), ((AA, A), ("all", A, ("some", A, ("all", A, equal(A, h(0, b(2)), c("f", b(1), h(1)))))))),
    (program(), ((A,), ("all", A, ("some", A, both(equal(A, h(0), b(0)), equal(A, b(0), b(1))))))),
    (program(), ((FA,), ("all", AA, equal(A, h(0, (1, ("b", 1), (b(0),))), b(0, c("c")))))),
    # Rules that are put in, with variables and bodies, under names, and used again.
    (program(fact("q", c("c"))),
     ((A,), ("all", A, given([rule((A,), "p", (c("f", b(0), b(1)),), atom("q", b(0)))],
                             atom("p", c("f", h(0), b(0))))))),
    (program(rule((A,), "p", (b(0),), given([fact("q", b(0))], atom("q", c("c"))))),
     ((A,), both(atom("p", h(0)), atom("p", c("d"))))),
    (program(fact("p", c("d"))),
     ((A,), ("some", A, given([fact("p", b(0)), fact("p", c("e"))],
                              given([fact("p", c("c"))], both(atom("p", h(0)), atom("p", b(0)))))))),
    (program(), ((A,), ("or", equal(A, h(0), c("c")),
                        ("or", TRUE, both(equal(A, h(0), c("d")), equal(A, h(0), c("e"))))))),
    # Matches.
    (program(), ((AA,), matched(A, h(0, c("c")), c("f", c("c"), c("c"))))),
    (program(), ((AA, AA), matched(A, h(0, h(1, c("c"))), c("c")))),
    (program(), ((AA, AA), matched(A, c("f", h(1, c("c")), h(0, c("c"))), c("f", c("c"), c("c"))))),
    (program(), ((AA,), ("some", AA, both(matched(A, c("f", b(0, c("c")), h(0, c("c"))), c("f", c("c"), c("c"))),
                                          ("all", A, equal(A, b(1, b(0)), c("c"))))))),
    (program(), ((AAA,), every((A, A), ("some", A, matched(A, b(0), b(2)))))),
    (program(), ((AAA,), every((A, A), both(equal(A, h(0, b(1), b(0)), h(0, b(0), b(1))),
                                           matched(A, h(0, b(0), b(0)), c("c")))))),
    (program(), ((AAA,), every((A, A), ("some", A, both(matched(A, h(0, b(0), b(2)), c("f", b(2), b(1))),
                                                       equal(A, b(0), b(1))))))),
    (program(), ((A,), ("all", A, ("some", AA, both(matched(A, b(0, b(1)), c("f", b(1), c("c"))),
                                                   equal(A, h(0), c("d"))))))),
    (program(), ((A,), both(matched(A, c("c"), h(0)), TRUE))),
    (program(), ((A,), both(equal(A, h(0), c("c")), matched(A, c("c"), h(0))))),
    (program(), ((FA,), ("all", AA, matched(A, h(0, (1, ("b", 1), (b(0),))), c("c"))))),
    (program(rule((AA, A), "r", ((1, ("b", 2), (b(0),)), b(0)), matched(A, b(1, c("c")), b(0)))),
     ((AA,), atom("r", (1, ("h", 0), (b(0),)), c("f", c("c"), c("d"))))),
)


# Random cases.

SIGNATURES = (
    SMALL,
    (("c", A), ("f", AAA), ("p", ((A,), "o")), ("r", ((AA, A), "o")), ("two", ((A, A), "o"))),
    (("c", A), ("g", ((FA,), "a")), ("p", ((A,), "o")), ("r", ((AA, A), "o")), ("hi", ((FA, AA), "o"))),
)
TAGS = ("true", "atom", "atom", "and", "and", "or", "some", "all", "all", "given", "equal", "equal")
NARROW = ("and", "all", "equal", "some", "atom", "and", "all")
MATCHES = ("match", "match", "and", "all", "some", "equal", "or", "given", "atom")


def any_case(rng, matches=True):
    """A case of small goals, with a match in it now and then if matches is True."""
    signature = rng.choice(SIGNATURES)
    kinds = rng.choice(((A, AA), (A, AA, AAA), (A,)))
    tags = rng.choice((TAGS, NARROW))
    if signature == SIGNATURES[2]:
        kinds = (A, AA, FA)
    elif matches and rng.randrange(2):
        tags = MATCHES
    holes = tuple(rng.choice(kinds) for _ in range(rng.randrange(4)))
    rules = tuple(class_rule(rng, signature, (), rng.randrange(1, 4), (), tags, kinds)
                  for _ in range(rng.randrange(2, 9)))
    return (signature, rules), (holes, class_goal(rng, signature, (), rng.randrange(2, 6), holes, tags, kinds))
