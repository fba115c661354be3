"""The machine (points 63 and 64)."""

from lacuna.binding import Binder
from lacuna.derivations import changed_row
from lacuna.equations import MOST_NODES
from lacuna.errors import LimitError
from lacuna.goals import changed_goal
from lacuna.instructions import goal_code, rules_code
from lacuna.levels import stored_term
from lacuna.matching import match
from lacuna.rows import Known, Rules, listed
from lacuna.store import Raiser, Store, entry, name_term, node_at
from lacuna.telling import is_stuck, matching_of, searched, terms_of, tidy_answer
from lacuna.terms import MOST, long_binder, long_hole


class Task:
    """A goal's code that is to be gone through: what the binders around it stand for, its names, the rules, the rest.

    The rest is the next task, or None.
    """

    def __init__(self, goal, env, prefix, rules, rest):
        self.goal = goal
        self.env = env
        self.prefix = prefix
        self.rules = rules
        self.rest = rest

    def inner(self, goal, env, rest):
        """A task for a goal with the same names and rules."""
        return Task(goal, env, self.prefix, self.rules, rest)


class Try:
    """A task with ways that were not gone yet, and the trail and the rows as they were ahead of it."""

    def __init__(self, mark, known, task, ways):
        self.mark = mark
        self.known = known
        self.task = task
        self.ways = ways
        self.at = 0


class Run:
    """What a machine does for one question: its store, the first task, the rows so far, and the tries."""

    def __init__(self, signature, rules, question):
        asked, goal = question
        self.signature = signature
        self.store = Store()
        self.cells = [self.store.cell((), 0, kind) for kind in asked]
        goal = changed_goal(goal, lambda term, d: stored_term(term, self.cells), 0)
        self.first = Task(goal_code(goal), (), (), rules, None)
        self.known = None
        self.tries = []
        self.is_over = False
        self.answers = []

    def go(self, row, first):
        """Tell a row of the first task and go on with another one."""
        self.known = Known(row, len(self.first.prefix), self.known)
        self.first = first

    def back(self):
        """Go on with the next way that is left of the last tries; the run is over if there is none."""
        while self.tries:
            last = self.tries[-1]
            self.store.undo(last.mark)
            self.known = last.known
            self.first = last.task
            way = last.ways[last.at]
            last.at += 1
            if last.at == len(last.ways):
                self.tries.pop()
            if self.enter(last.task, way):
                return
        self.is_over = True

    def choose(self, ways):
        """Go the first of the ways of the first task that can be gone; the others are left for later."""
        if ways:
            self.tries.append(Try(len(self.store.trail), self.known, self.first, ways))
        self.back()

    def enter(self, task, way):
        """Whether the way of a task can be gone; then it is."""
        tag = task.goal[0]
        if tag == "atom":
            return self.use(task, way)
        if tag == "match":
            self.fill_matching(way)
            self.go(("match",), task.rest)
        else:
            row, goal = way
            self.go(row, task.inner(goal, task.env, task.rest))
        return True

    def take(self):
        """Take a step; returns whether it is not stuck."""
        task = self.first
        goal, env, rest = task.goal, task.env, task.rest
        tag = goal[0]
        if tag == "true":
            self.go(goal, rest)
        elif tag == "and":
            self.go((tag,), task.inner(goal[1], env, task.inner(goal[2], env, rest)))
        elif tag == "or":
            self.choose([(("left",), goal[1]), (("right",), goal[2])])
        elif tag == "some":
            worth = (long_hole(self.new_cell(task, goal[1]), goal[1]), ())
            self.go((tag, worth), task.inner(goal[2], env + (entry(worth[0], ()),), rest))
        elif tag == "all":
            prefix = task.prefix + (goal[1],)
            self.go((tag,), Task(goal[2], env + (len(task.prefix),), prefix, task.rules, rest))
        elif tag == "given":
            self.go((tag,), Task(goal[2], env, task.prefix, Rules(goal[1], env, task.rules), rest))
        elif tag == "equal":
            self.equal(task)
        elif tag == "match":
            return self.matched(task)
        else:
            self.choose(task.rules.tried(goal[1]))
        return True

    def new_cell(self, task, kind):
        """A new cell under the names of the task."""
        return self.store.cell(task.prefix, len(task.prefix), kind)

    def equal(self, task):
        """Take the step of an equal."""
        _, _, left, right = task.goal
        if Binder(self.store).solve([((left, task.env), (right, task.env))], len(task.prefix)):
            self.go(("equal",), task.rest)
        else:
            self.back()

    def begin(self, task, slots, new, code):
        """Give cells to the variables with these slots."""
        for slot in new:
            kind = code.kinds[slot]
            slots[slot] = entry(long_hole(self.new_cell(task, kind), kind), ())

    def slots_for(self, task, code, env):
        """What the variables of a rule stand for when its head is the atom of the task, or None if it is not."""
        level = len(task.prefix)
        slots = [None] * len(code.kinds)
        binder = Binder(self.store)
        todo = [(row, (part, task.env)) for row, part in zip(code.head, task.goal[2])]
        todo.reverse()
        while todo:
            row, worth = todo.pop()
            if row[0] == "take":
                slots[row[1]] = entry(worth[0], worth[1])
                continue
            if row[0] == "look":
                _, head, parts, inner_env, _ = node_at(worth[0], worth[1], level)
                if head == row[1]:
                    below = [(row[2][j], (parts[j], inner_env)) for j in range(len(parts))]
                    todo.extend(list(reversed(below)))
                    continue
                if head[0] != "h":
                    return None
            self.begin(task, slots, row[-1], code)
            if not binder.solve([(worth, (row[-2], env + tuple(slots)))], level):
                return None
        self.begin(task, slots, [slot for slot in range(len(slots)) if slots[slot] is None], code)
        return tuple(slots)

    def use(self, task, way):
        """Whether a rule can be used for an atom; then it is."""
        number, code, env = way
        slots = self.slots_for(task, code, env)
        if slots is None:
            return False
        inner = env + slots
        row = ("use", number, tuple([(term, inner) for term in code.terms]))
        self.go(row, task.inner(code.body, inner, task.rest))
        return True

    def matched(self, task):
        """Take the step of a match; returns whether it is not stuck."""
        _, kind, left, right = task.goal
        level = len(task.prefix)
        raiser = Raiser(MOST_NODES)
        left = raiser.read((left, task.env), level)
        right = raiser.read((right, task.env), level)
        if is_stuck(raiser.kinds, left, right):
            return False
        values, rows = self.so_far(raiser)
        equation = (task.prefix, kind, left, right)
        matching = matching_of(self.signature, raiser.kinds, equation, values + terms_of(rows))
        cells = [(raiser.cells[number], order) for number, order in matching.holes]
        self.choose([(cells, told) for told in match(matching.problem)])
        return True

    def fill_matching(self, way):
        """Fill the cells of a matching by an answer of it."""
        cells, (kinds, terms) = way
        # What an answer uses of the names it gets as parts: so its holes have the level 0.
        new = [self.store.cell((), 0, kind) for kind in kinds]
        for (cell, order), term in zip(cells, terms):
            own, sort = cell.raised_kind()
            between = self.store.cell((), 0, (tuple([own[j] for j in order]), sort))
            self.store.fill(between, stored_term(term, new), ())
            n = len(cell.kind[0])
            parts = []
            for j in order:
                inside = j - cell.level
                parts.append(name_term(j, own[j]) if inside < 0 else long_binder(n - 1 - inside, own[j]))
            self.store.fill(cell, (n, ("h", between), tuple(parts)), ())

    def so_far(self, raiser):
        """The list of the raised values and that of the rows known so far, as the raiser reads them."""
        values = [raiser.read((long_hole(cell, cell.kind), ()), 0) for cell in self.cells]
        return values, [changed_row(row, raiser.read, level) for row, level in listed(self.known)]

    def told(self):
        """The answer that is reached, or None if it is too large."""
        raiser = Raiser(MOST)
        try:
            values, rows = self.so_far(raiser)
        except LimitError:
            return None
        return tidy_answer(values, rows, raiser.kinds)

    def end(self, many):
        """Tell the answers that come first; returns how the search ends then, or None if it goes on."""
        while not self.is_over and self.first is None:
            answer = self.told()
            if answer is None:
                return "large"
            self.answers.append(answer)
            if len(self.answers) == many:
                return "many"
            self.back()
        return "closed" if self.is_over else None


class Machine:
    """A machine for a program."""

    def __init__(self, program):
        signature, rules = program
        self.signature = signature
        self.rules = Rules(rules_code(rules), (), None)

    def ask(self, question, steps, many):
        """What the plain search tells of the question."""
        return searched(Run(self.signature, self.rules, question), steps, many)
