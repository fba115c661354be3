"""Texts: reading and writing types, terms, programs and questions (points 80 to 86)."""

from lacuna.meaning import Scope, constant_of, holes_of, kind_of, question_of, rule_of_text
from lacuna.parsing import Parser
from lacuna.tokens import spaced, tokens_of
from lacuna.writing import Writer, kind_tokens, listed_tokens


def read_type(text):
    """The type that a text is."""
    parser = Parser(tokens_of(text))
    told = parser.take_kind()
    parser.take_end()
    return kind_of(told, True)


def write_type(kind):
    """The text of a type."""
    return spaced(kind_tokens(kind))


def read_term(signature, names, prefix, kind, text):
    """The term of the type that a text is, where names are those of the prefix, and those of holes with their types."""
    parser = Parser(tokens_of(text))
    told = parser.take_term()
    parser.take_end()
    binders, holes = names
    scope = Scope(dict(signature), holes_of(holes), tuple(list(zip(binders, prefix))))
    return scope.term_of(told, kind)


def write_term(signature, holes, prefix, kind, term):
    """The text of a term of the type."""
    around = Writer(dict(signature), (), (), ())
    binders = around.named(prefix)
    named = around.below(binders).named(holes)
    return spaced(Writer(dict(signature), named, binders, ()).term_tokens(term, kind))


def read_program(text):
    """The program that a text is."""
    parser = Parser(tokens_of(text))
    statements = []
    while parser.next_token() != "":
        statements.append(parser.take_statement())
    signature, rules = (), ()
    for tag, told in statements:
        if tag == "con":
            signature = signature + (constant_of(signature, told[0], told[1]),)
        else:
            rules = rules + (rule_of_text(signature, told),)
    return signature, rules


def write_program(program):
    """The text of a program."""
    signature, rules = program
    writer = Writer(dict(signature), (), (), ())
    rows = [["con", name, ":"] + kind_tokens(kind) for name, kind in signature]
    rows.extend([["rule"] + writer.rule_tokens(rule) for rule in rules])
    return "".join([spaced(row + [";"]) + "\n" for row in rows])


def read_question(program, text):
    """The question that a text is, to the program."""
    parser = Parser(tokens_of(text))
    parser.expect("ask")
    told = parser.take_question()
    parser.expect(";")
    parser.take_end()
    return question_of(program[0], told)[0]


def write_question(program, question):
    """The text of a question to the program."""
    kinds, goal = question
    writer = Writer(dict(program[0]), (), (), ())
    holes = writer.named(kinds)
    inner = Writer(dict(program[0]), holes, (), ())
    return spaced(["ask"] + listed_tokens(holes) + inner.goal_tokens(goal) + [";"])
