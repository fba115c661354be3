"""Terms read under an environment: what is put in for binders and holes is looked up where it is read.

So nothing is built that is left out again, and nothing is lifted: what counts is only what is there at the end.
"""

from lacuna.errors import LimitError
from lacuna.terms import long_head

# An environment tells what the binders around a term stand for, outermost first: a level, if the binder stays, or a
# closure, which is a pair of a term and its environment. Levels number the binders that stay, from outside, from 0.
# Binders of a term that its environment does not tell of stay, too: they have the levels -1, -2, .., inner ones first.


def entry_of(number, env):
    """What the binder with this number stands for: a level or a closure."""
    at = len(env) - 1 - number
    return env[at] if at >= 0 else at


def closure(term, env):
    """What a binder stands for when the term is put in for it."""
    head = long_head(term)
    # Without this short way a chain of long forms would be followed again and again.
    if head is not None and head[0] == "b":
        return entry_of(head[1], env)
    return term, env


def settled(head, parts, env, values):
    """The head, its parts and their environment, once the head is one that stays; a binder's number is its level."""
    while True:
        sign, mark = head
        if sign == "h" and mark in values:
            term, outer = values[mark], ()
        elif sign == "b":
            entry = entry_of(mark, env)
            if type(entry) is int:
                return ("b", entry), parts, env
            term, outer = entry
        else:
            return head, parts, env
        env = outer + tuple([closure(part, env) for part in parts])
        _, head, parts = term


def node_under(term, env, level, values):
    """The first node of what the term is under the environment, where so many binders that stay are around it.

    It is told as its number of own binders, its head, its parts as they stand in the terms, and the environment and
    the number of binders that stay for these. The dict values tells what holes are filled with.
    """
    n, head, parts = term
    inner = level + n
    head, parts, env = settled(head, parts, env + tuple(range(level, inner)), values)
    if head[0] == "b":
        head = ("b", inner - 1 - head[1])
    return n, head, parts, env, inner


def term_under(term, env, level, values, most):
    """The pair of what the term is under the environment, and of its number of nodes; LimitError if it has too many."""
    rows = []
    todo = [(term, env, level)]
    while todo:
        outer, env, level = todo.pop()
        n, head, parts, env, inner = node_under(outer, env, level, values)
        rows.append((n, head, len(parts)))
        if len(rows) > most:
            raise LimitError(f"more than {most} nodes")
        todo.extend([(part, env, inner) for part in reversed(parts)])
    return built(rows), len(rows)


def built(rows):
    """The term whose nodes are told in the order of reading, each with the number of its parts."""
    done = []
    for n, head, many in reversed(rows):
        done.append((n, head, tuple([done.pop() for _ in range(many)])))
    return done[0]


def agree(left, right, level, most):
    """Whether two pairs of a term and its environment are the same; LimitError if this takes more than most nodes."""
    seen = 0
    todo = [left + right + (level,)]
    while todo:
        first, first_env, second, second_env, level = todo.pop()
        n, head, parts, first_env, inner = node_under(first, first_env, level, {})
        m, other, others, second_env, _ = node_under(second, second_env, level, {})
        if n != m or head != other or len(parts) != len(others):
            return False
        seen += 1
        if seen > most:
            raise LimitError(f"more than {most} nodes")
        for part, against in zip(parts, others):
            todo.append((part, first_env, against, second_env, inner))
    return True
