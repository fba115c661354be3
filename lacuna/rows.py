"""Rows of rules, as tasks have them, and the rows of derivations that are known so far (points 50 to 52)."""


class Rules:
    """Rules that stand together: those of a program, or of a given, with what the binders around these stand for.

    Ahead are the rules that were there before, or None. Each rule is told as a pair of its predicate and of what it is
    for the search.
    """

    def __init__(self, rules, env, ahead):
        first = 0 if ahead is None else ahead.many
        self.many = first + len(rules)
        self.env = env
        self.ahead = ahead
        self.table = {}
        for number, (p, rule) in enumerate(rules, start=first):
            self.table.setdefault(p, []).append((number, rule, env))

    def tried(self, p):
        """The rules for the predicate in the order in which they are tried.

        Each is told as a triple of its number, the rule, and what the binders around it stand for.
        """
        found = []
        rules = self
        while rules is not None:
            found.extend(rules.table.get(p, []))
            rules = rules.ahead
        return found


class Known:
    """The last row of a derivation that is known, with the number of names around its terms, and the rows before it."""

    def __init__(self, row, level, before):
        self.row = row
        self.level = level
        self.before = before


def listed(known):
    """The pairs of the rows and of the numbers of names, in order; None stands for no rows."""
    found = []
    while known is not None:
        found.append((known.row, known.level))
        known = known.before
    found.reverse()
    return found
