"""What the words of a text mean (points 80 to 84 and 86), for what parsing.py tells.

All is looked at in the order of the tokens, but that the type of a same or match goes ahead of its terms: so the first
wrong token that is found is the one with the least number.
"""

from lacuna.errors import TextError
from lacuna.terms import FORMULAS, lifted, long_row, raised_head

LONGEST = 8


def name_of(word):
    """The word, which must not be too long for a name."""
    at, name = word
    if len(name) > LONGEST:
        raise TextError(at)
    return name


def kind_of(told, is_last):
    """The type; the sort of formulas may be its sort if is_last is True."""
    arguments = []
    for operand in told[:-1]:
        arguments.append(operand_of(operand, False))
    more, sort = operand_of(told[-1], is_last)
    return tuple(arguments) + more, sort


def operand_of(told, is_last):
    """The type that a word or a type in brackets is."""
    if type(told) is list:
        return kind_of(told, is_last)
    if told[1] == FORMULAS and not is_last:
        raise TextError(told[0])
    return (), name_of(told)


class Scope:
    """The names that there are: constants and holes, by name, and binders, outermost first, with their types."""

    def __init__(self, constants, holes, binders):
        self.constants = constants
        self.holes = holes
        self.binders = binders

    def inner(self, more):
        """The scope below more binders, each a pair of a name and its type."""
        return Scope(self.constants, self.holes, self.binders + tuple(more))

    def head_of(self, name):
        """The pair of the head of this name and of its type, or None."""
        for i, (binder, kind) in enumerate(reversed(self.binders)):
            if binder == name:
                return ("b", i), kind
        if name in self.holes:
            k, kind = self.holes[name]
            return ("h", k), kind
        if name in self.constants:
            return ("c", name), self.constants[name]
        return None

    def term_of(self, told, kind):
        """The term, which must have the type."""
        binders, (at, name), parts = told
        own, sort = kind
        names = [name_of(binder) for binder in binders]
        if len(names) > len(own):
            raise TextError(at)
        inner = self.inner(list(zip(names, own)))
        there = inner.head_of(name)
        if there is None:
            raise TextError(at)
        head, (needed, other) = there
        rest = own[len(names):]
        # The binders that are not written are the last parts.
        if other != sort or len(parts) > len(needed) or needed[len(parts):] != rest:
            raise TextError(at)
        more = len(rest)
        found = [lifted(inner.term_of(part, needed[j]), more) for j, part in enumerate(parts)]
        return len(own), raised_head(head, more), tuple(found) + long_row(rest)

    def atom_of(self, told):
        """The predicate and the parts of an atom."""
        _, (at, name), parts = told
        there = self.head_of(name)
        if there is None:
            raise TextError(at)
        head, (needed, sort) = there
        if head[0] != "c" or sort != FORMULAS or len(parts) != len(needed):
            raise TextError(at)
        return name, tuple([self.term_of(part, needed[j]) for j, part in enumerate(parts)])

    def goal_of(self, told):
        """The goal."""
        tag = told[0]
        if tag == "atom":
            p, parts = self.atom_of(told)
            return tag, p, parts
        if tag in ("and", "or"):
            return joined(tag, [self.goal_of(part) for part in told[1]])
        if tag in ("some", "all"):
            name = name_of(told[1])
            kind = kind_of(told[2], False)
            return tag, kind, self.inner([(name, kind)]).goal_of(told[3])
        if tag == "given":
            rules = tuple([self.rule_of(rule) for rule in told[1]])
            return tag, rules, self.goal_of(told[2])
        if tag in ("same", "match"):
            kind = kind_of(told[3], False)
            word = "equal" if tag == "same" else tag
            return word, kind, self.term_of(told[1], kind), self.term_of(told[2], kind)
        return told

    def rule_of(self, told):
        """The rule."""
        variables, head, body = told
        named = kinds_of(variables)
        inner = self.inner(named)
        p, parts = inner.atom_of(head)
        return tuple([kind for _, kind in named]), p, parts, inner.goal_of(body)


def joined(tag, goals):
    """The goals joined by and, or by or, to the right."""
    told = goals.pop()
    while goals:
        told = (tag, goals.pop(), told)
    return told


def kinds_of(named):
    """The pairs of the names and types that stand in [ ]."""
    found = []
    names = {}
    for word, kind in named:
        name = name_of(word)
        if name in names:
            raise TextError(word[0])
        names[name] = True
        found.append((name, kind_of(kind, False)))
    return found


def holes_of(named):
    """The holes of a scope: for each name the pair of its number and its type."""
    return {name: (k, kind) for k, (name, kind) in enumerate(named)}


def constant_of(signature, word, kind):
    """The constant that is told by a word and a type; none of the signature may have its name."""
    name = name_of(word)
    if name in dict(signature):
        raise TextError(word[0])
    return name, kind_of(kind, True)


def rule_of_text(signature, told):
    """A rule of a program."""
    return Scope(dict(signature), {}, ()).rule_of(told)


def question_of(signature, told):
    """A question, and the names of its holes."""
    holes, goal = told
    named = kinds_of(holes)
    scope = Scope(dict(signature), holes_of(named), ())
    return (tuple([kind for _, kind in named]), scope.goal_of(goal)), [name for name, _ in named]


def number_of(told, limits):
    """The number that is told, which must be within the limits."""
    at, digits = told
    least, most = limits
    if len(digits) > len(str(most)) or not least <= int(digits) <= most:
        raise TextError(at)
    return int(digits)
