"""Goals, rules and derivations to try the program with, and what points 40 to 46 say of them, told by their words.

Nothing here imports the program but the derivation by words, which opens and lifts goals as the program does.
"""

from lacuna.rules import lift_goal, lift_rule, open_goal, open_rule

from tests.samples import (
    A, AA, AAA, B, BA, FA, is_typed, kind_of_head, long, meaning, nodes, reify, reflect, told_unfilled,
)

# Each argument of a constant that is no predicate has sorts alone as its own arguments, so matches may stand here.
FORMULAS = (
    ("c", A), ("d", B), ("s", AA), ("f", AAA), ("g", ((B, A), "b")), ("lam", ((AA,), "a")), ("two", ((AA, BA), "a")),
    ("p", ((A,), "o")), ("q", ((A, B), "o")), ("r", ((AA, A), "o")), ("t", ((), "o")), ("high", ((FA,), "o")),
)
# Here is one more constant, with which no match is of the class.
NO_MATCH = FORMULAS + (("it", ((FA,), "a")),)

TYPES = (A, B, AA, AAA, BA, FA)
TAGS = ("true", "atom", "and", "or", "some", "all", "given", "equal", "match")


def predicates(signature):
    return [(name, kind[0]) for name, kind in signature if kind[1] == "o"]


# Random goals of the class. Binders are pairs of a type and whether it is open, outermost first.

def row_of_closed(rng, binders, below, kinds):
    """Different closed binders of the types with numbers below the given one, as long forms, or None."""
    numbers = []
    for kind in kinds:
        rows = [i for i in range(min(below, len(binders))) if i not in numbers
                and binders[len(binders) - 1 - i] == (kind, False)]
        if not rows:
            return None
        numbers.append(rng.choice(rows))
    return tuple(long(("b", i), binders[len(binders) - 1 - i][0], len(binders)) for i in numbers)


def class_heads(rng, signature, holes, binders, sort, free, fuel):
    """Heads that may stand at a place, each with the types it needs, and its parts if it may not have any."""
    found = [(("c", name), kind[0], None) for name, kind in signature if kind[1] == sort]
    for i in range(len(binders)):
        (needed, told), is_open = binders[len(binders) - 1 - i]
        if told != sort:
            continue
        if not is_open or free and not any(kind[0] for kind in needed):
            found += [(("b", i), needed, None)] * 2
        else:
            parts = row_of_closed(rng, binders, i, needed)
            if parts is not None:
                found += [(("b", i), needed, parts)] * 4
    for k, (needed, told) in enumerate(holes):
        if told == sort:
            parts = row_of_closed(rng, binders, len(binders), needed)
            if free and not any(kind[0] for kind in needed):
                found += [(("h", k), needed, None)]
            elif parts is not None:
                found += [(("h", k), needed, parts)] * 2
    if fuel <= 0:
        return [row for row in found if not row[1] or row[2] is not None] or found
    return found


def class_term(rng, signature, holes, binders, kind, fuel, free=False):
    """A term of the type kind such as the class lets stand in a goal; free is whether it is the first of a match."""
    binders = binders + tuple((part, False) for part in kind[0])
    head, needed, parts = rng.choice(class_heads(rng, signature, holes, binders, kind[1], free, fuel))
    if parts is None:
        parts = tuple(class_term(rng, signature, holes, binders, part, fuel - 1, free) for part in needed)
    return (len(kind[0]), head, parts)


def class_atom(rng, signature, holes, binders, fuel):
    p, needed = rng.choice(predicates(signature))
    return p, tuple(class_term(rng, signature, holes, binders, kind, fuel) for kind in needed)


def class_rule(rng, signature, binders, fuel, holes=(), tags=TAGS, kinds=TYPES):
    types = tuple(rng.choice(kinds) for _ in range(rng.randrange(3)))
    inner = binders + tuple((kind, True) for kind in types)
    p, parts = class_atom(rng, signature, holes, inner, 2)
    return (types, p, parts, class_goal(rng, signature, inner, fuel - 1, holes, tags, kinds))


def class_goal(rng, signature, binders, fuel, holes=(), tags=TAGS, kinds=TYPES):
    tag = rng.choice(tags if fuel > 0 else [tag for tag in ("true", "atom", "equal") if tag in tags])
    if tag == "true":
        return ("true",)
    if tag == "atom":
        return ("atom",) + class_atom(rng, signature, holes, binders, 2)
    rest = (fuel - 1, holes, tags, kinds)
    if tag in ("and", "or"):
        return (tag,) + tuple(class_goal(rng, signature, binders, *rest) for _ in range(2))
    if tag in ("some", "all"):
        kind = rng.choice(kinds)
        return (tag, kind, class_goal(rng, signature, binders + ((kind, tag == "some"),), *rest))
    if tag == "given":
        rules = tuple(class_rule(rng, signature, binders, *rest) for _ in range(rng.randrange(1, 3)))
        return (tag, rules, class_goal(rng, signature, binders, *rest))
    kind = rng.choice(kinds)
    first = class_term(rng, signature, holes, binders, kind, 2, tag == "match")
    return (tag, kind, first, class_term(rng, signature, holes, binders, kind, 2))


# Whether goals are of the class, by the words of the interface.

def is_form_term(value):
    if type(value) is not tuple or len(value) != 3:
        return False
    n, head, parts = value
    if type(n) is not int or n < 0 or type(parts) is not tuple or type(head) is not tuple or len(head) != 2:
        return False
    if head[0] == "c":
        good = type(head[1]) is str
    else:
        good = head[0] in ("b", "h") and type(head[1]) is int and head[1] >= 0
    return good and all(is_form_term(part) for part in parts)


def is_name_word(value):
    reserved = "con rule ask if true some all given same match steps many height".split()
    if type(value) is not str or not 0 < len(value) < 9 or value in reserved:
        return False
    return set(value) <= set("abcdefghijklmnopqrstuvwxyz")


def is_form_type(value, inner=True):
    if type(value) is not tuple or len(value) != 2 or type(value[0]) is not tuple or not is_name_word(value[1]):
        return False
    return not (inner and value[1] == "o") and all(is_form_type(kind) for kind in value[0])


def is_form_types(value):
    return type(value) is tuple and all(is_form_type(kind) for kind in value)


def is_form_signature(value):
    if type(value) is not tuple:
        return False
    for entry in value:
        if type(entry) is not tuple or len(entry) != 2 or not is_name_word(entry[0]):
            return False
        if not is_form_type(entry[1], False):
            return False
    return len({name for name, _ in value}) == len(value)


def is_form_rule(value):
    if type(value) is not tuple or len(value) != 4:
        return False
    return is_form_types(value[0]) and is_form_goal(("atom", value[1], value[2])) and is_form_goal(value[3])


def is_form_goal(value):
    if type(value) is not tuple or not value or type(value[0]) is not str:
        return False
    tag, rest = value[0], value[1:]
    if tag == "true":
        return rest == ()
    if tag == "atom":
        return (len(rest) == 2 and type(rest[0]) is str and type(rest[1]) is tuple
                and all(is_form_term(part) for part in rest[1]))
    if tag in ("and", "or"):
        return len(rest) == 2 and is_form_goal(rest[0]) and is_form_goal(rest[1])
    if tag in ("some", "all"):
        return len(rest) == 2 and is_form_type(rest[0]) and is_form_goal(rest[1])
    if tag == "given":
        return (len(rest) == 2 and type(rest[0]) is tuple and len(rest[0]) > 0
                and all(is_form_rule(rule) for rule in rest[0]) and is_form_goal(rest[1]))
    if tag in ("equal", "match"):
        return len(rest) == 3 and is_form_type(rest[0]) and is_form_term(rest[1]) and is_form_term(rest[2])
    return False


def names_wrong(constants, many_holes, many_binders, term):
    n, (sign, mark), parts = term
    inner = many_binders + n
    if sign == "c" and (mark not in constants or constants[mark][1] == "o"):
        return True
    if sign == "b" and mark >= inner or sign == "h" and mark >= many_holes:
        return True
    return any(names_wrong(constants, many_holes, inner, part) for part in parts)


def parts_of_class(signature, holes, binders, term, kind, free):
    """Point 43 for a term that has the type kind; binders are pairs of a type and whether it is open."""
    n, (sign, mark), parts = term
    binders = binders + tuple((part, False) for part in kind[0])
    types = tuple(told for told, _ in binders)
    needed = kind_of_head(signature, holes, types, (sign, mark))[0]
    is_open = sign == "b" and binders[len(binders) - 1 - mark][1]
    if (is_open or sign == "h") and not (free and not any(part[0] for part in needed)):
        numbers = []
        for part in parts:
            fits = [i for i in range(len(binders)) if part == long(("b", i), types[len(types) - 1 - i], len(types))]
            if len(fits) != 1 or binders[len(binders) - 1 - fits[0]][1] or is_open and fits[0] >= mark:
                return False
            numbers += fits
        if len(set(numbers)) != len(numbers):
            return False
    return all(parts_of_class(signature, holes, binders, part, needed[j], free) for j, part in enumerate(parts))


class Check:
    """Collects what is due in goals and rules that have the form."""

    def __init__(self, signature, holes):
        self.signature = signature
        self.constants = dict(signature)
        self.holes = holes
        self.name = False
        self.kind = False
        self.bad = False            # not of the class, as far as names and types are right
        self.has_match = False

    def term(self, binders, kind, term, free=False):
        types = tuple(told for told, _ in binders)
        if names_wrong(self.constants, len(self.holes), len(binders), term):
            self.name = True
        elif kind is not None and not is_typed(self.signature, self.holes, types, kind, term):
            self.kind = True
        elif kind is not None and not parts_of_class(self.signature, self.holes, binders, term, kind, free):
            self.bad = True

    def atom(self, binders, p, parts):
        if p not in self.constants or self.constants[p][1] != "o":
            self.name = True
            needed = (None,) * len(parts)
        else:
            needed = self.constants[p][0]
        if len(needed) != len(parts):
            self.kind = True
            needed = (None,) * len(parts)
        for kind, part in zip(needed, parts):
            self.term(binders, kind, part)

    def rule(self, binders, rule):
        types, p, parts, body = rule
        binders = binders + tuple((kind, True) for kind in types)
        self.atom(binders, p, parts)
        self.goal(binders, body)

    def goal(self, binders, goal):
        tag = goal[0]
        if tag == "atom":
            self.atom(binders, goal[1], goal[2])
        elif tag in ("and", "or"):
            self.goal(binders, goal[1])
            self.goal(binders, goal[2])
        elif tag in ("some", "all"):
            self.goal(binders + ((goal[1], tag == "some"),), goal[2])
        elif tag == "given":
            for rule in goal[1]:
                self.rule(binders, rule)
            self.goal(binders, goal[2])
        elif tag in ("equal", "match"):
            self.has_match = self.has_match or tag == "match"
            self.term(binders, goal[1], goal[2], tag == "match")
            self.term(binders, goal[1], goal[3])

    def is_of_class(self):
        deep = any(inner[0] for _, kind in self.signature if kind[1] != "o" for part in kind[0] for inner in part[0])
        return not self.bad and not (self.has_match and deep)


def due(checks):
    """The names of the errors of which one is to be raised, with the number of the rule; () if there is none."""
    found = ()
    if any(check.name for check in checks):
        found += (("BadName", None),)
    if any(check.kind for check in checks):
        found += (("BadType", None),)
    if found:
        return found
    for number, check in enumerate(checks):
        if not check.is_of_class():
            return (("BadRule", number),)
    return ()


def program_due(value):
    if type(value) is not tuple or len(value) != 2 or not is_form_signature(value[0]):
        return (("BadForm", None),)
    if type(value[1]) is not tuple or not all(is_form_rule(rule) for rule in value[1]):
        return (("BadForm", None),)
    checks = []
    for rule in value[1]:
        checks.append(Check(value[0], ()))
        checks[-1].rule((), rule)
    return due(checks)


def question_due(program, value):
    if type(value) is not tuple or len(value) != 2 or not is_form_types(value[0]) or not is_form_goal(value[1]):
        return (("BadForm", None),)
    check = Check(program[0], value[0])
    check.goal((), value[1])
    found = due([check])
    return (("BadRule", -1),) if found and found[0][0] == "BadRule" else found


# Opening, filling and lifting goals by what their terms mean.

class Meant:
    """Makes of each term in a goal what it means where binders and holes mean what they are told to."""

    def __init__(self, signature, told_holes):
        self.signature = signature
        self.told_holes = told_holes

    def terms(self, around, level, kinds, parts):
        found = []
        for kind, part in zip(kinds, parts):
            found.append(reify(kind, meaning(self.signature, self.told_holes, around, part), level))
        return tuple(found)

    def goal(self, around, level, goal):
        tag = goal[0]
        if tag == "true":
            return goal
        if tag == "atom":
            return (tag, goal[1], self.terms(around, level, dict(self.signature)[goal[1]][0], goal[2]))
        if tag in ("and", "or"):
            return (tag, self.goal(around, level, goal[1]), self.goal(around, level, goal[2]))
        if tag in ("some", "all"):
            inner = [reflect(("level", level), goal[1])] + around
            return (tag, goal[1], self.goal(inner, level + 1, goal[2]))
        if tag == "given":
            rules = tuple(self.rule(around, level, rule) for rule in goal[1])
            return (tag, rules, self.goal(around, level, goal[2]))
        return (tag, goal[1]) + self.terms(around, level, (goal[1], goal[1]), goal[2:])

    def rule(self, around, level, rule):
        types, p, parts, body = rule
        inner = around
        for j, kind in enumerate(types):
            inner = [reflect(("level", level + j), kind)] + inner
        level += len(types)
        parts = self.terms(inner, level, dict(self.signature)[p][0], parts)
        return (types, p, parts, self.goal(inner, level, body))


def names_around(prefix):
    return [reflect(("level", i), prefix[i]) for i in reversed(range(len(prefix)))]


def expected_open_goal(signature, holes, prefix, goal, terms):
    told_holes = told_unfilled(holes)
    around = names_around(prefix)
    told = [meaning(signature, told_holes, around, term) for term in terms]
    return Meant(signature, told_holes).goal(list(reversed(told)) + around, len(prefix), goal)


def expected_fill_goal(signature, new, values, prefix, goal):
    told_new = told_unfilled(new)
    told_holes = [meaning(signature, told_new, [], value) for value in values]
    return Meant(signature, told_holes).goal(names_around(prefix), len(prefix), goal)


def expected_lift(signature, holes, prefix, more, thing, is_rule=False):
    """A goal or a rule in the prefix, in the prefix that is longer by more."""
    meant = Meant(signature, told_unfilled(holes))
    around = names_around(prefix)
    level = len(prefix) + len(more)
    return meant.rule(around, level, thing) if is_rule else meant.goal(around, level, thing)


# Derivations by the words of point 45.

class Derive:
    """Reads rows as a derivation; rules are in the prefix, as are goals."""

    def __init__(self, program, holes, rows):
        self.signature = program[0]
        self.holes = holes
        self.rows = rows
        self.at = 0

    def fits(self, prefix, kind, value):
        if not is_form_term(value):
            return False
        if names_wrong({n: k for n, k in self.signature}, len(self.holes), len(prefix), value):
            return False
        return is_typed(self.signature, self.holes, prefix, kind, value)

    def goal(self, prefix, rules, goal):
        """Whether a derivation of the goal comes next."""
        if self.at == len(self.rows):
            return False
        row = self.rows[self.at]
        self.at += 1
        tag = goal[0]
        if tag == "atom":
            return self.use(prefix, rules, goal, row)
        if tag == "some":
            if type(row) is not tuple or len(row) != 2 or row[0] != "some" or not self.fits(prefix, goal[1], row[1]):
                return False
            return self.goal(prefix, rules, open_goal(goal[2], (row[1],)))
        if tag == "or":
            if row == ("left",):
                return self.goal(prefix, rules, goal[1])
            return row == ("right",) and self.goal(prefix, rules, goal[2])
        if row != (tag,):
            return False
        if tag == "and":
            return self.goal(prefix, rules, goal[1]) and self.goal(prefix, rules, goal[2])
        if tag == "all":
            return self.goal(prefix + (goal[1],), tuple(lift_rule(rule, 1) for rule in rules), goal[2])
        if tag == "given":
            return self.goal(prefix, rules + goal[1], goal[2])
        return tag == "true" or goal[2] == goal[3]

    def use(self, prefix, rules, goal, row):
        if type(row) is not tuple or len(row) != 3 or row[0] != "use" or type(row[1]) is not int:
            return False
        if not 0 <= row[1] < len(rules) or type(row[2]) is not tuple or len(row[2]) != len(rules[row[1]][0]):
            return False
        rule = rules[row[1]]
        if not all(self.fits(prefix, kind, term) for kind, term in zip(rule[0], row[2])):
            return False
        head, body = open_rule(rule, row[2])
        return head == goal and self.goal(prefix, rules, body)


def derives(program, question, rows):
    if type(rows) is not tuple:
        return False
    reader = Derive(program, question[0], rows)
    return reader.goal((), program[1], question[1]) and reader.at == len(rows)


def height_by_words(rows):
    """The height of a derivation, read from its first row on."""
    def read(at):
        word = rows[at][0]
        many = {"true": 0, "equal": 0, "match": 0, "and": 2}.get(word, 1)
        most = 0
        at += 1
        for _ in range(many):
            found, at = read(at)
            most = max(most, found)
        return most + (word == "use"), at
    return read(0)[0]


# Goals with derivations.

class Prover:
    """Makes goals together with derivations of them. Terms are of the type a or b, or functions of these."""

    def __init__(self, rng, signature, holes):
        self.rng = rng
        self.signature = signature
        self.holes = holes

    def term(self, prefix, kind):
        while True:
            binders = tuple((told, False) for told in prefix)
            term = class_term(self.rng, self.signature, self.holes, binders, kind, self.rng.randrange(3))
            if nodes(term) <= 12:
                return term

    def goal(self, prefix, rules, fuel):
        """A goal in the prefix with a derivation from the rules, as a pair."""
        tags = ("true", "equal", "match") if fuel <= 0 else ("atom", "and", "or", "some", "all", "given")
        tag = self.rng.choice(tags)
        if tag == "true":
            return ("true",), (("true",),)
        if tag in ("equal", "match"):
            kind = self.rng.choice((A, B, AA))
            term = self.term(prefix, kind)
            return (tag, kind, term, term), ((tag,),)
        if tag == "and":
            (first, rows), (second, more) = self.goal(prefix, rules, fuel - 1), self.goal(prefix, rules, fuel - 1)
            return (tag, first, second), (("and",),) + rows + more
        if tag == "or":
            (first, rows), (second, _) = self.goal(prefix, rules, fuel - 1), self.goal(prefix, rules, fuel - 1)
            if self.rng.randrange(2):
                return (tag, first, second), (("left",),) + rows
            return (tag, second, first), (("right",),) + rows
        if tag == "some":
            goal, rows = self.goal(prefix, rules, fuel - 1)
            kind = self.rng.choice((A, B))
            term = self.term(prefix, kind)
            return (tag, kind, abstracted(lift_goal(goal, 1), term)), (("some", term),) + rows
        if tag == "all":
            kind = self.rng.choice((A, B, AA))
            goal, rows = self.goal(prefix + (kind,), tuple(lift_rule(rule, 1) for rule in rules), fuel - 1)
            return (tag, kind, goal), (("all",),) + rows
        return self.given(prefix, rules, fuel) if tag == "given" else self.atom(prefix, rules, fuel)

    def given(self, prefix, rules, fuel):
        p, needed = self.rng.choice(predicates(self.signature))
        parts = tuple(self.term(prefix, kind) for kind in needed)
        body, rows = self.goal(prefix, rules, fuel - 2)
        rule = self.rule(prefix, p, parts, body)
        goal, more = self.goal(prefix, rules + (rule[0],), fuel - 2)
        # One more rule stands ahead of those that are put in further inside.
        rows = tuple(("use", row[1] + 1, row[2]) if row[0] == "use" and row[1] >= len(rules) else row for row in rows)
        use = (("use", len(rules), rule[1]),) + rows
        both = ("and", ("atom", p, parts), goal)
        return ("given", (rule[0],), both), (("given",), ("and",)) + use + more

    def rule(self, prefix, p, parts, body):
        """A rule and terms for its variables such that it is opened to the atom and the body."""
        terms = tuple(self.term(prefix, self.rng.choice((A, B))) for _ in range(self.rng.randrange(3)))
        sorts = {name: kind[1] for name, kind in self.signature}
        types = tuple(((), self.sort_of(prefix, term, sorts)) for term in terms)
        k = len(terms)
        inner = [lift_goal(("atom", p, parts), k), lift_goal(body, k)]
        for j, term in enumerate(terms):
            inner = [abstracted(goal, term, k, k - 1 - j) for goal in inner]
        return (types, p, inner[0][2], inner[1]), terms

    def sort_of(self, prefix, term, sorts):
        sign, mark = term[1]
        if sign == "c":
            return sorts[mark]
        return self.holes[mark][1] if sign == "h" else prefix[len(prefix) - 1 - mark][1]

    def atom(self, prefix, rules, fuel):
        facts = [k for k in range(len(rules)) if rules[k][3] == ("true",)]
        if not facts:
            return self.given(prefix, rules, fuel)
        k = self.rng.choice(facts)
        terms = tuple(self.term(prefix, kind) for kind in rules[k][0])
        return open_rule(rules[k], terms)[0], (("use", k, terms), ("true",))


def abstracted(goal, term, k=1, i=0):
    """The goal, lifted by k, in which the binder i stands for the term (of a sort), but not in a hole's parts."""
    def change(part, d):
        if part == lifted_words(term, d + k):
            return (0, ("b", d + i), ())
        if part[1][0] == "h":
            return part
        return (part[0], part[1], tuple(change(inner, d + part[0]) for inner in part[2]))
    return over(goal, change, 0)


def lifted_words(term, k, inner=0):
    n, (sign, mark), parts = term
    inner += n
    head = (sign, mark + k) if sign == "b" and mark >= inner else (sign, mark)
    return (n, head, tuple(lifted_words(part, k, inner) for part in parts))


def over(goal, change, d):
    tag = goal[0]
    if tag == "true":
        return goal
    if tag == "atom":
        return (tag, goal[1], tuple(change(part, d) for part in goal[2]))
    if tag in ("and", "or"):
        return (tag, over(goal[1], change, d), over(goal[2], change, d))
    if tag in ("some", "all"):
        return (tag, goal[1], over(goal[2], change, d + 1))
    if tag == "given":
        rules = tuple((types, p, tuple(change(part, d + len(types)) for part in parts),
                       over(body, change, d + len(types))) for types, p, parts, body in goal[1])
        return (tag, rules, over(goal[2], change, d))
    return (tag, goal[1], change(goal[2], d), change(goal[3], d))


# Values that are wrong in one place.

JUNK = (None, True, False, 0, 1, -1, 7, "", "a", "o", "zz", (), (None,), ("true",), ("atom", "t", ()), ((), "a"),
        ((), "o"), (((), "a"),), (0, ("c", "c"), ()), (0, ("b", 0), ()), (0, ("h", 0), ()), (1, ("b", 0), ()),
        (0, ("c", "d"), ()), ("b", 0), ("b", 1), ("c", "c"), ("c", "p"), ("c", "Nil"), ("h", 0), ("h", 1),
        ("use", 0, ()), ("some", (0, ("c", "c"), ())), ("all",), ("left",), ("right",), ("equal",), ("match",),
        ("given",), ("and",))


def spots(value, path=()):
    """The paths to all parts of a nested tuple, itself included."""
    found = [path]
    if type(value) is tuple:
        for at, part in enumerate(value):
            found += spots(part, path + (at,))
    return found


def part_at(value, path):
    for at in path:
        value = value[at]
    return value


def replaced(value, path, new):
    if not path:
        return new
    at = path[0]
    return value[:at] + (replaced(value[at], path[1:], new),) + value[at + 1:]


def sort_of_thing(value):
    """What a part of a program or a question looks like."""
    if is_form_term(value):
        return "term"
    if is_form_goal(value):
        return "goal"
    if is_form_type(value):
        return "kind"
    if type(value) is tuple and len(value) == 2 and value[0] in ("b", "c", "h"):
        return "head"
    return type(value).__name__


def alike(rng, value):
    """The value with one part replaced by another part of it, or another thing, that looks alike."""
    paths = spots(value)
    things = [part_at(value, path) for path in paths] + list(JUNK)
    sorts = [sort_of_thing(thing) for thing in things]
    word = rng.choice(sorted({word for word in sorts[:len(paths)]}))
    at = rng.choice([at for at in range(len(paths)) if sorts[at] == word])
    return replaced(value, paths[at], rng.choice([things[j] for j in range(len(things)) if sorts[j] == word]))


def twisted(rng, value):
    """The value with one part replaced: by junk, by another part of the value, or by one entry more or less."""
    path = rng.choice(spots(value))
    part = part_at(value, path)
    way = rng.randrange(5)
    if way == 0 and type(part) is int:
        return replaced(value, path, rng.choice((part + 1, part - 1, bool(part), part + 2)))
    if way == 1 and type(part) is tuple and part:
        at = rng.randrange(len(part))
        return replaced(value, path, part[:at] + part[at + 1:])
    if way == 2 and type(part) is tuple:
        at = rng.randrange(len(part) + 1)
        return replaced(value, path, part[:at] + (rng.choice(JUNK),) + part[at:])
    if way == 3:
        return replaced(value, path, part_at(value, rng.choice(spots(value))))
    return replaced(value, path, rng.choice(JUNK))
