"""Going through goals and rules (points 41 and 43)."""


def changed_terms(terms, change, d):
    """The tuple of what becomes of the terms."""
    return tuple([change(term, d) for term in terms])


def changed_goal(goal, change, d):
    """The goal with change(term, d) in the place of each term.

    Here d is the number of binders of some, all and rules between the goal and the term, and those there were before.
    """
    tag = goal[0]
    if tag == "true":
        return goal
    if tag == "atom":
        return (tag, goal[1], changed_terms(goal[2], change, d))
    if tag in ("and", "or"):
        return (tag, changed_goal(goal[1], change, d), changed_goal(goal[2], change, d))
    if tag in ("some", "all"):
        return (tag, goal[1], changed_goal(goal[2], change, d + 1))
    if tag == "given":
        rules = tuple([changed_rule(rule, change, d) for rule in goal[1]])
        return (tag, rules, changed_goal(goal[2], change, d))
    return (tag, goal[1]) + changed_terms(goal[2:], change, d)


def changed_rule(rule, change, d):
    """The rule with change(term, d) in the place of each term, as in a goal; its variables are binders between."""
    kinds, p, parts, body = rule
    inner = d + len(kinds)
    return (kinds, p, changed_terms(parts, change, inner), changed_goal(body, change, inner))


class Site:
    """A place in a goal or rule where terms stand, or in a rule its head.

    The tag is that of the goal, atom for a rule's head; mark is the predicate, or the type of both terms; binders are
    those around, outermost first, each as a pair of its type and whether it is open.
    """

    def __init__(self, tag, mark, terms, binders):
        self.tag = tag
        self.mark = mark
        self.terms = terms
        self.binders = binders

    def around(self):
        """The types of the binders around."""
        return tuple([kind for kind, _ in self.binders])


def goal_parts(goal, binders):
    """The goals in a goal, and its rules as pairs with True, each with the binders around it."""
    tag = goal[0]
    if tag in ("and", "or"):
        return [(goal[1], False, binders), (goal[2], False, binders)]
    if tag in ("some", "all"):
        return [(goal[2], False, binders + ((goal[1], tag == "some"),))]
    if tag == "given":
        return [(rule, True, binders) for rule in goal[1]] + [(goal[2], False, binders)]
    return []


def goal_sites(goal, binders):
    """The sites of a goal itself, without those of goals and rules in it."""
    tag = goal[0]
    if tag in ("atom", "equal", "match"):
        return [Site(tag, goal[1], goal[2] if tag == "atom" else goal[2:], binders)]
    return []


def sites(thing, rule):
    """The sites of a goal, or of a rule if rule is True, in the empty prefix."""
    found = []
    todo = [(thing, rule, ())]
    while todo:
        thing, is_rule, binders = todo.pop()
        if is_rule:
            kinds, p, parts, body = thing
            inner = binders + tuple([(kind, True) for kind in kinds])
            found.append(Site("atom", p, parts, inner))
            todo.append((body, False, inner))
        else:
            found.extend(goal_sites(thing, binders))
            todo.extend(goal_parts(thing, binders))
    return found
