"""The plain search (points 50 to 56)."""

from lacuna.equations import Solver
from lacuna.searching import Search
from lacuna.telling import searched


def search(program, question, steps, many):
    """The triple of the answers, the end, and the number of steps that were taken."""
    return searched(Search(program, question, Solver(), None), steps, many)
