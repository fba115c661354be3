"""The grammar of points 80 to 84 and 90, and where tokens cannot be continued by it, found by trying all ways."""

import re

RESERVED = "con rule ask if true some all given same match steps many height".split()
TOKEN = re.compile(r"[a-z]+|0(?![0-9])|[1-9][0-9]*|->|[()\[\].,:;&|]")

# Terminals are the signs and the reserved words themselves, WORD and NUMBER.
RULES = {
    "TYPE": ("OPERAND", "OPERAND -> TYPE"),
    "OPERAND": ("WORD", "( TYPE )"),
    "TERM": ("( TERM )", "BODY"),
    "BODY": ("WORD . BODY", "WORD PARTS"),
    "PARTS": ("", "WORD PARTS", "( TERM ) PARTS"),
    "GOAL": ("UNIT", "UNIT & GOAL", "UNIT | GOAL"),
    "UNIT": ("true", "ATOM", "same TERM , TERM : TYPE", "match TERM , TERM : TYPE", "some NAMED . GOAL",
             "all NAMED . GOAL", "given ( RULES ) . GOAL", "( GOAL )"),
    "ATOM": ("WORD PARTS",),
    "NAMED": ("WORD : TYPE",),
    "LIST": ("NAMED", "NAMED , LIST"),
    "NAMES": ("", "[ LIST ]"),
    "RULE": ("NAMES ATOM", "NAMES ATOM if GOAL"),
    "RULES": ("RULE", "RULE , RULES"),
    "PROGRAM": ("", "con NAMED ; PROGRAM", "rule RULE ; PROGRAM"),
    "QUESTION": ("ask NAMES GOAL ;",),
    "STATEMENT": ("con NAMED ;", "rule RULE ;", "ask NAMES GOAL steps NUMBER many NUMBER ;",
                  "ask NAMES GOAL height NUMBER ;"),
}
ROWS = {name: tuple(tuple(row.split()) for row in rows) for name, rows in RULES.items()}


def tokens_by_words(text):
    """The tokens of a text."""
    found = []
    at = 0
    while at < len(text):
        if text[at] in " \n":
            at += 1
            continue
        there = TOKEN.match(text, at)
        # A row of digits with a leading zero is no token, and neither is a part of it.
        if there is None or re.match("0[0-9]", text[at:]):
            end = at
            while end < len(text) and text[end] not in " \n" and (end == at or not begins(text, end)):
                end += 1
        else:
            end = there.end()
        found.append(text[at:end])
        at = end
    return found


def begins(text, at):
    """Whether a token begins here, behind signs that are none."""
    if text[at] in "0123456789" and (text[at - 1] in "0123456789" or re.match("0[0-9]", text[at:])):
        return False
    return TOKEN.match(text, at) is not None


def kind_of_token(token):
    if re.fullmatch("[a-z]+", token):
        return token if token in RESERVED else "WORD"
    if re.fullmatch("0|[1-9][0-9]*", token):
        return "NUMBER"
    return token if TOKEN.fullmatch(token) else "NONE"


def closed(states, at, columns):
    """The states that come of these at the same place. A state is a name, a row, how far it is, and where it began."""
    todo = list(states)
    found = set(todo)
    empty = {name for name, rows in ROWS.items() if () in rows}
    while todo:
        name, row, far, start = todo.pop()
        if far == len(row):
            ahead = columns[start] if start < at else found
            new = [(other, more, further + 1, begun) for other, more, further, begun in ahead
                   if further < len(more) and more[further] == name]
        elif row[far] in ROWS:
            new = [(row[far], more, 0, at) for more in ROWS[row[far]]]
            if row[far] in empty:
                new.append((name, row, far + 1, start))
        else:
            new = []
        for state in new:
            if state not in found:
                found.add(state)
                todo.append(state)
    return found


def wrong_at(name, tokens):
    """The number of the token at which the tokens cannot be continued as this, or None if they are this."""
    columns = [closed([(name, row, 0, 0) for row in ROWS[name]], 0, [])]
    for at, token in enumerate(tokens):
        kind = kind_of_token(token)
        states = [(other, row, far + 1, start) for other, row, far, start in columns[at]
                  if far < len(row) and row[far] == kind]
        if not states:
            return at
        columns.append(closed(states, at + 1, columns))
    return None if any(state[0] == name and state[2] == len(state[1]) and state[3] == 0
                       for state in columns[-1]) else len(tokens)
