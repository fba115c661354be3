"""Plain-built goals and derivations of them, and what points 70 to 78 say of them, told by their words."""

from lacuna.cutting import clauses, rules_of
from lacuna.derivations import filled, height
from lacuna.errors import LimitError
from lacuna.machine import Machine
from lacuna.rules import check_program, check_question, lift_rule

from tests.formulas import class_goal, class_rule
from tests.programs import fact, rule
from tests.samples import A, AA, any_term, b, meaning, reflect, reify

SIGNATURE = (("c", A), ("d", A), ("s", AA), ("lam", ((AA,), "a")), ("p", ((), "o")), ("q", ((A,), "o")),
             ("r", ((AA,), "o")), ("t", ((), "o")))
CONSTANTS = tuple(row for row in SIGNATURE if row[1][1] != "o")
TAGS = ("atom", "atom", "and", "and", "all", "given", "given", "given", "true")
KINDS = (A, AA)


def clauses_words(goal):
    """Point 70."""
    tag = goal[0]
    if tag == "true":
        return []
    if tag == "atom":
        return [((), (), goal[1], goal[2])]
    if tag == "and":
        return clauses_words(goal[1]) + clauses_words(goal[2])
    if tag == "all":
        return [((goal[1],) + kinds, rules, p, parts) for kinds, rules, p, parts in clauses_words(goal[2])]
    found = []
    for kinds, rules, p, parts in clauses_words(goal[2]):
        found.append((kinds, tuple(lift_rule(told, len(kinds)) for told in goal[1]) + rules, p, parts))
    return found


def are_alike(first, second):
    """Whether two rules are alike (point 71)."""
    return first[:3] == second[:3] and are_alike_clauses(clauses_words(first[3]), clauses_words(second[3]))


def are_alike_clauses(first, second):
    if len(first) != len(second):
        return False
    for one, other in zip(first, second):
        if one[0] != other[0] or one[2:] != other[2:] or len(one[1]) != len(other[1]):
            return False
        if not all(are_alike(told, against) for told, against in zip(one[1], other[1])):
            return False
    return True


def within(goal):
    """How many rules stand within one another in a goal."""
    if goal[0] == "given":
        return max([1 + within(told[3]) for told in goal[1]] + [within(goal[2])])
    if goal[0] == "and":
        return max(within(goal[1]), within(goal[2]))
    return within(goal[2]) if goal[0] == "all" else 0


def any_plain(rng, fuel):
    """A plain-built goal within the limits."""
    while True:
        goal = class_goal(rng, SIGNATURE, (), fuel, (), TAGS, KINDS)
        many = len(clauses(goal))
        if many <= 8 and within(goal) <= 3 and (many > 0 or rng.randrange(10) == 0):
            return goal


def any_rules(rng):
    """Rules with which most atoms have derivations."""
    rules = [class_rule(rng, SIGNATURE, (), rng.randrange(1, 3), (), TAGS, KINDS) for _ in range(rng.randrange(3))]
    rules += [fact("p"), rule((A,), "q", (b(0),)), rule((AA,), "r", ((1, ("b", 1), (b(0),)),))]
    rng.shuffle(rules)
    return tuple(rules[:rng.randrange(2, len(rules) + 1)])


def behind(rules, goal):
    """The goal behind the rules, if there are any."""
    return ("given", rules, goal) if rules else goal


def derivations(rng, rules, goal, most):
    """Some derivations of a goal from the rules, without holes, which are not too large."""
    try:
        answers = Machine((SIGNATURE, rules)).ask(((), goal), 300, 30)[0]
    except LimitError:
        return []
    found = []
    for types, _, rows in answers:
        values = tuple(any_term(rng, (), (), kind, 1, CONSTANTS) for kind in types)
        rows = filled(rows, values)
        if len(rows) <= 400 and height(rows) <= 25:
            found.append(rows)
    return rng.sample(found, min(most, len(found)))


def moved(rows, first, many, to):
    """The rows in which so many rules, from the number first on, stand behind those up to the number to."""
    def number(k):
        if first <= k < first + many:
            return k + to - first - many
        return k - many if first + many <= k < to else k
    return tuple(("use", number(row[1]), row[2]) if row[0] == "use" else row for row in rows)


def of_class(rules, *goals):
    try:
        check_program((SIGNATURE, rules))
        for goal in goals:
            check_question((SIGNATURE, rules), ((), goal))
    except ValueError:
        return False
    return True


class Cut:
    """The middle goal and another one, with derivations of both."""

    def __init__(self, rng):
        while True:
            self.rules = any_rules(rng)
            self.middle = any_plain(rng, rng.randrange(1, 6))
            self.goal = self.middle if rng.randrange(2) else any_plain(rng, rng.randrange(1, 5))
            self.rest = rules_of(self.middle)
            if not of_class(self.rules + self.rest, behind(self.rest, self.middle), behind(self.rest, self.goal)):
                continue
            self.firsts = derivations(rng, self.rules, self.middle, 2)
            self.seconds = self.bodies(rng, self.goal, 3)
            if self.firsts and self.seconds:
                return

    def program(self):
        return SIGNATURE, self.rules

    def longer(self):
        """The program with the rules of the middle goal behind."""
        return SIGNATURE, self.rules + self.rest

    def bodies(self, rng, goal, most):
        """Derivations of a goal from the rules and those of the middle goal, which are tried first."""
        many = len(self.rest)
        found = derivations(rng, self.rest + self.rules, goal, most)
        return [moved(rows, 0, many, many + len(self.rules)) for rows in found]

    def second(self, body):
        """The derivation with its given row."""
        return ((("given",),) if self.rest else ()) + body


def opened_words(signature, kinds, rest, kind, term, terms):
    """The term in the prefix of kinds and rest, with the terms, in the prefix of kinds, put in for rest."""
    names = [reflect(("level", i), kinds[i]) for i in range(len(kinds))]
    around = list(reversed(names))
    told = [meaning(signature, [], around, part) for part in terms]
    return reify(kind, meaning(signature, [], list(reversed(told)) + around, term), len(kinds))
