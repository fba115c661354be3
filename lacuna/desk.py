"""The desk (points 90 and 91)."""

from lacuna.errors import BadRule, HasMatch, LimitError, TextError
from lacuna.heights import by_height
from lacuna.machine import Machine
from lacuna.meaning import constant_of, number_of, question_of, rule_of_text
from lacuna.parsing import Parser
from lacuna.rules import check_program, check_question
from lacuna.states import holes_in
from lacuna.tokens import spaced, tokens_of
from lacuna.writing import Writer, kind_tokens

# The greatest numbers of steps, of wanted answers and of heights, and the least ones.
STEPS = (0, 20000)
MANY = (1, 200)
HEIGHTS = (0, 30)


def statements_of(text):
    """The statements of a text, each a list of tokens."""
    found = []
    ahead = []
    for token in tokens_of(text):
        ahead.append(token)
        if token == ";":
            found.append(ahead)
            ahead = []
    if ahead:
        found.append(ahead)
    return found


def value_lines(signature, names, kinds, answer):
    """What is told of an answer to a question whose holes have these names and types."""
    types, values, _ = answer
    constants = dict(signature)
    # The holes of the values come ahead of those that are left in the rows alone.
    left = types[:len(holes_in(values))]
    own = Writer(constants, (), (), names).named(left)
    writer = Writer(constants, own, (), names)
    rows = []
    for name, value, kind in zip(names, values, kinds):
        rows.append(f"{name} = {spaced(writer.term_tokens(value, kind))}")
    told = ", ".join(rows)
    if own:
        told = told + " for " + ", ".join([f"{hole} : {spaced(kind_tokens(its))}" for hole, its in own])
    return told


def answer_lines(signature, names, kinds, answers):
    """The lines for the answers to a question whose holes have these names and types."""
    found = []
    for k, answer in enumerate(answers, start=1):
        told = value_lines(signature, names, kinds, answer) if names else "yes"
        found.append(f"{k}: {told}")
    return found


class Desk:
    """A desk with a program, which takes statements and answers questions."""

    def __init__(self):
        self.signature = ()
        self.rules = ()

    def program(self):
        """The program that the desk has."""
        return self.signature, self.rules

    def take(self, text):
        """Take the statements of a text; returns the list of the lines."""
        found = []
        for tokens in statements_of(text):
            found.extend(self.lines(tokens))
        return found

    def lines(self, tokens):
        """The lines that answer a statement."""
        try:
            return self.answer_to(tokens)
        except TextError as error:
            return [f"error {error.at}"]
        except BadRule:
            return ["class"]
        except HasMatch:
            return ["match"]
        except LimitError:
            return ["limit"]

    def answer_to(self, tokens):
        """The lines that answer a statement; an error is raised if it cannot be taken."""
        parser = Parser(tokens)
        if parser.next_token() == "ask":
            return self.answered(parser.take_asked())
        tag, told = parser.take_statement()
        if tag == "con":
            self.have(self.signature + (constant_of(self.signature, told[0], told[1]),), self.rules)
        else:
            self.have(self.signature, self.rules + (rule_of_text(self.signature, told),))
        return []

    def have(self, signature, rules):
        """Have another program, if it is of the class."""
        check_program((signature, rules))
        self.signature = signature
        self.rules = rules

    def answered(self, asked):
        """The lines that answer a question; an error is raised if it cannot be asked."""
        tag, told, numbers = asked
        question, names = question_of(self.signature, told)
        limits = [HEIGHTS] if tag == "height" else [STEPS, MANY]
        numbers = [number_of(number, limits[j]) for j, number in enumerate(numbers)]
        check_question(self.program(), question)
        if tag == "height":
            answers, end = by_height(self.program(), question, numbers[0])
        else:
            answers, end, used = Machine(self.program()).ask(question, numbers[0], numbers[1])
            end = f"{end} after {used}"
        return answer_lines(self.signature, names, question[0], answers) + [end]
