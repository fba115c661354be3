"""The form of programs and questions (points 11, 41 and 42), whatever names and types there are."""

from lacuna.terms import are_kinds, is_index, is_kind, is_pair, is_signature

# What stands in a goal behind its tag.
GOALS = {
    "true": (),
    "atom": ("word", "terms"),
    "and": ("goal", "goal"),
    "or": ("goal", "goal"),
    "some": ("kind", "goal"),
    "all": ("kind", "goal"),
    "given": ("rules", "goal"),
    "equal": ("kind", "term", "term"),
    "match": ("kind", "term", "term"),
}
RULE = ("kinds", "word", "terms", "goal")


def has_head_form(value):
    """Whether any value has the form of a head."""
    if not is_pair(value):
        return False
    sign, mark = value
    if sign == "c":
        return type(mark) is str
    return sign in ("b", "h") and is_index(mark)


def term_rows(value):
    """What is to be looked at in any value in the place of a term, or None if it has not the form."""
    if type(value) is not tuple or len(value) != 3 or not is_index(value[0]) or not has_head_form(value[1]):
        return None
    return [("terms", value[2])]


def shaped_rows(shape, value):
    """What is to be looked at in any value that must have what the shape tells, or None if it has another length."""
    if type(value) is not tuple or len(value) != len(shape):
        return None
    return list(zip(shape, value))


def goal_rows(value):
    """What is to be looked at in any value in the place of a goal, or None if it has not the form."""
    if type(value) is not tuple or not value or type(value[0]) is not str or value[0] not in GOALS:
        return None
    return shaped_rows(GOALS[value[0]], value[1:])


def tuple_rows(what, value):
    """What is to be looked at in any value in the place of a tuple of such things, or None if it is no tuple."""
    if type(value) is not tuple:
        return None
    return [(what, part) for part in value]


def leaf_rows(fits):
    """Nothing is to be looked at further if the value fits; None otherwise."""
    return [] if fits else None


def form_rows(what, value):
    """What is to be looked at in any value where such a thing must stand, or None if it has not the form."""
    if what == "kind":
        return leaf_rows(is_kind(value))
    if what == "kinds":
        return leaf_rows(are_kinds(value))
    if what == "word":
        return leaf_rows(type(value) is str)
    if what == "term":
        return term_rows(value)
    if what == "terms":
        return tuple_rows("term", value)
    if what == "rule":
        return shaped_rows(RULE, value)
    if what == "rules":
        return tuple_rows("rule", value) if value != () else None
    return goal_rows(value)


def has_form(what, value):
    """Whether any value has the form of a goal, of a rule, or of another thing that stands in these."""
    todo = [(what, value)]
    while todo:
        inner, part = todo.pop()
        rows = form_rows(inner, part)
        if rows is None:
            return False
        todo.extend(rows)
    return True


def has_program_form(value):
    """Whether any value has the form of a program."""
    if not is_pair(value) or not is_signature(value[0]) or type(value[1]) is not tuple:
        return False
    return all([has_form("rule", rule) for rule in value[1]])


def has_question_form(value):
    """Whether any value has the form of a question."""
    return is_pair(value) and are_kinds(value[0]) and has_form("goal", value[1])
