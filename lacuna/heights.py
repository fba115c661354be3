"""Answers by height, and refusals (points 57 to 59)."""

from lacuna.closures import term_under
from lacuna.equations import MOST_NODES, Solver
from lacuna.errors import HasMatch, LimitError
from lacuna.goals import sites
from lacuna.patterns import follow, row
from lacuna.searching import Search, numbered
from lacuna.states import holes_in

# How many steps a search by heights may take.
MOST_STEPS = 20000


def check_no_match(program, question):
    """HasMatch if there is a match anywhere in the program or the question."""
    found = [site for rule in program[1] for site in sites(rule, True)] + sites(question[1], False)
    if any([site.tag == "match" for site in found]):
        raise HasMatch("a search by heights takes no match")


def problem_of(signature, holes, filling, prefix, rows):
    """The problem that the equations are, as a solver gets them, and the numbers of its holes in the search.

    It has the holes alone that occur in it: no other one is filled, so the rows for it are the same.
    """
    level = len(prefix)
    sides = []
    for _, left, right in rows:
        for term, env in (left, right):
            sides.append(term_under(term, env, level, filling, MOST_NODES)[0])
    numbers = list(holes_in(sides))
    new = {hole: k for k, hole in enumerate(numbers)}
    sides = [numbered(side, new) for side in sides]
    equations = tuple([(prefix, rows[j][0], sides[2 * j], sides[2 * j + 1]) for j in range(len(rows))])
    return (signature, tuple([holes.kinds[hole] for hole in numbers]), equations), numbers


class Scribe:
    """Solves equations, and writes down the rows of steps for them."""

    def __init__(self, signature):
        self.signature = signature
        self.solver = Solver()
        self.paper = []

    def solution(self, holes, filling, prefix, rows):
        """What holes are filled with so that the equations are solved, or None."""
        problem, _ = problem_of(self.signature, holes, filling, prefix, rows)
        self.paper.append(row(problem))
        return self.solver.solution(holes, filling, prefix, rows)


class Judge:
    """Takes the rows of a paper for the answers to equations; at is the number of the row that comes next."""

    def __init__(self, signature, paper):
        self.signature = signature
        self.paper = paper
        self.at = 0
        self.is_wrong = False

    def solution(self, holes, filling, prefix, rows):
        """What holes are filled with by what the next row leads to, or None if it leads to nothing or to none."""
        if self.is_wrong or self.at == len(self.paper):
            self.is_wrong = True
            return None
        problem, numbers = problem_of(self.signature, holes, filling, prefix, rows)
        told = follow(problem, self.paper[self.at])
        self.at += 1
        # All sides are patterns, so nothing is ever kept.
        if told is None:
            self.is_wrong = True
        if told is None or told[0] == "none":
            return None
        _, kinds, terms, _ = told
        new = {k: holes.made(kind) for k, kind in enumerate(kinds)}
        return {hole: numbered(term, new) for hole, term in zip(numbers, terms)}


def ended(run, goes_on):
    """The end of a search that has neither a number of steps nor one of answers; None if goes_on() is False first."""
    used = 0
    while True:
        end = run.end(None)
        if end is not None:
            return end
        if used == MOST_STEPS:
            raise LimitError(f"more than {MOST_STEPS} steps")
        used += 1
        # Without a match no step is stuck.
        run.take()
        if not goes_on():
            return None


def by_height(program, question, height):
    """The pair of the answers and the end."""
    check_no_match(program, question)
    run = Search(program, question, Solver(), height)
    end = ended(run, lambda: True)
    if end == "closed" and run.is_open:
        end = "open"
    return tuple(run.answers), end


def is_refused(run):
    """Whether the search is closed without answers."""
    end = ended(run, lambda: not run.is_open and not run.answers)
    return end == "closed" and not run.is_open and not run.answers


def refusal(program, question, height):
    """A refusal if the search by height is closed without answers, otherwise None."""
    check_no_match(program, question)
    if not is_refused(Search(program, question, Solver(), height)):
        return None
    # Rows are written for a search alone that is known to be refused: for others they might be too large.
    scribe = Scribe(program[0])
    is_refused(Search(program, question, scribe, height))
    return tuple(scribe.paper)


def is_refusal(program, question, paper):
    """Whether any value is a refusal."""
    check_no_match(program, question)
    if type(paper) is not tuple:
        return False
    judge = Judge(program[0], paper)
    run = Search(program, question, judge, None)
    end = ended(run, lambda: not judge.is_wrong and not run.answers)
    return end == "closed" and not judge.is_wrong and not run.answers and judge.at == len(paper)
