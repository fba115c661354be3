"""The tokens that types, terms, goals and rules are written as (point 85)."""

from lacuna.terms import LETTERS, RESERVED
from lacuna.tokens import ARROW


def word_at(number):
    """The word of the list a, b, .., z, aa, ab, .. with this number."""
    letters = []
    number += 1
    while number > 0:
        number, rest = divmod(number - 1, len(LETTERS))
        letters.append(LETTERS[rest])
    letters.reverse()
    return "".join(letters)


def kind_tokens(kind):
    """The tokens of a type."""
    found = []
    for argument in kind[0]:
        tokens = kind_tokens(argument)
        found.extend(["("] + tokens + [")"] if argument[0] else tokens)
        found.append(ARROW)
    found.append(kind[1])
    return found


def joined_tokens(rows, token):
    """The tokens of the rows, with the token between two of them."""
    found = []
    for at, row in enumerate(rows):
        if at > 0:
            found.append(token)
        found.extend(row)
    return found


def is_open(goal):
    """Whether a goal as it is written ends with one that goes as far to the right as possible."""
    while goal[0] == "and":
        goal = goal[2]
    return goal[0] in ("some", "all", "given")


def needs_brackets(tag, goal, is_first):
    """Whether a side of a goal of this tag stands in brackets."""
    if not is_first:
        return tag == "and" and goal[0] == "or"
    if tag == "and":
        return goal[0] in ("and", "or", "some", "all", "given")
    return goal[0] == "or" or is_open(goal)


class Writer:
    """Writes what stands below binders and holes that have names.

    The constants are the types of the constants by their names, the holes pairs of a name and a type, and the binders
    such pairs, too, outermost first. Names that are among those taken are given to nothing.
    """

    def __init__(self, constants, holes, binders, taken):
        self.constants = constants
        self.holes = holes
        self.binders = binders
        self.taken = taken

    def fresh(self, more):
        """The first name that nothing around has, and that is not among more names."""
        around = [name for name, _ in self.holes + self.binders] + more
        number = 0
        while True:
            name = word_at(number)
            if name not in RESERVED and name not in self.constants and name not in around and name not in self.taken:
                return name
            number += 1

    def named(self, kinds):
        """Names for things of these types, each a pair of a name and its type."""
        names = []
        for _ in kinds:
            names.append(self.fresh(names))
        return tuple(list(zip(names, kinds)))

    def below(self, more):
        """The same below more binders."""
        return Writer(self.constants, self.holes, self.binders + more, self.taken)

    def head_tokens(self, head):
        """The name and the type of a head."""
        sign, mark = head
        if sign == "b":
            return self.binders[len(self.binders) - 1 - mark]
        return self.holes[mark] if sign == "h" else (mark, self.constants[mark])

    def term_tokens(self, term, kind):
        """The tokens of a term of the type."""
        _, head, parts = term
        own = self.named(kind[0])
        inner = self.below(own)
        name, needed = inner.head_tokens(head)
        found = []
        for binder, _ in own:
            found.extend([binder, "."])
        found.append(name)
        for part, part_kind in zip(parts, needed[0]):
            tokens = inner.term_tokens(part, part_kind)
            found.extend(["("] + tokens + [")"] if len(tokens) > 1 else tokens)
        return found

    def atom_tokens(self, p, parts):
        """The tokens of an atom."""
        # An atom is written as a term with the predicate as its head is.
        return self.term_tokens((0, ("c", p), parts), ((), self.constants[p][1]))

    def goal_tokens(self, goal):
        """The tokens of a goal."""
        tag = goal[0]
        if tag == "atom":
            return self.atom_tokens(goal[1], goal[2])
        if tag in ("and", "or"):
            sign = "&" if tag == "and" else "|"
            return self.side_tokens(tag, goal[1], True) + [sign] + self.side_tokens(tag, goal[2], False)
        if tag in ("some", "all"):
            own = self.named((goal[1],))
            return [tag] + named_tokens(own) + ["."] + self.below(own).goal_tokens(goal[2])
        if tag == "given":
            rules = joined_tokens([self.rule_tokens(rule) for rule in goal[1]], ",")
            return [tag, "("] + rules + [")", "."] + self.goal_tokens(goal[2])
        if tag in ("equal", "match"):
            _, kind, left, right = goal
            word = "same" if tag == "equal" else tag
            sides = joined_tokens([self.term_tokens(left, kind), self.term_tokens(right, kind)], ",")
            return [word] + sides + [":"] + kind_tokens(kind)
        return [tag]

    def side_tokens(self, tag, goal, is_first):
        """The tokens of a side of a goal of this tag."""
        tokens = self.goal_tokens(goal)
        return ["("] + tokens + [")"] if needs_brackets(tag, goal, is_first) else tokens

    def rule_tokens(self, rule):
        """The tokens of a rule."""
        kinds, p, parts, body = rule
        own = self.named(kinds)
        inner = self.below(own)
        found = listed_tokens(own) + inner.atom_tokens(p, parts)
        return found if body == ("true",) else found + ["if"] + inner.goal_tokens(body)


def named_tokens(named):
    """The tokens of names and their types."""
    return joined_tokens([[name, ":"] + kind_tokens(kind) for name, kind in named], ",")


def listed_tokens(named):
    """The tokens of names and their types in [ ], which are missing if there are none."""
    return ["["] + named_tokens(named) + ["]"] if named else []
