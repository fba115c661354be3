"""The grammar of texts (points 80 to 84 and 90): what stands where, whatever the words mean.

What is read is told as follows; a word or a number is told as a pair of its number among the tokens and itself.

- A type is a list of a word or a type for each argument, and at last for the sort.
- A term is a triple of the list of its binders, which are words, its head, a word, and the list of its parts.
- A goal is ("true",), ("atom", word, parts), ("same" or "match", term, term, type), ("and" or "or", goals), ("some" or
  "all", word, type, goal), or ("given", rules, goal).
- A rule is a triple of the list of its variables, each a pair of a word and a type, its head, told as a goal is, and
  its body.
- A question is a pair of the list of its holes, told as variables are, and its goal.
"""

from lacuna.errors import TextError
from lacuna.tokens import ARROW, is_free_word, is_number


class Parser:
    """Reads tokens; at is the number of the next one. Where they cannot be continued TextError is raised."""

    def __init__(self, tokens):
        self.tokens = tokens
        self.at = 0

    def next_token(self):
        """The next token, or an empty string at the end."""
        return self.tokens[self.at] if self.at < len(self.tokens) else ""

    def take(self):
        """The next token, behind which it goes on."""
        token = self.next_token()
        self.at += 1
        return token

    def sees(self, token):
        """Whether this token is the next one; then it goes on behind it."""
        if self.next_token() != token:
            return False
        self.at += 1
        return True

    def expect(self, token):
        """Go on behind this token, which must be the next one."""
        if not self.sees(token):
            raise TextError(self.at)

    def take_word(self):
        """The next token, which must be a word that is not reserved."""
        if not is_free_word(self.next_token()):
            raise TextError(self.at)
        return self.at, self.take()

    def take_number(self):
        """The next token, which must be a number."""
        if not is_number(self.next_token()):
            raise TextError(self.at)
        return self.at, self.take()

    def take_end(self):
        """There must be no further token."""
        if self.at < len(self.tokens):
            raise TextError(self.at)

    def take_kind(self):
        """A type."""
        found = [self.take_operand()]
        while self.sees(ARROW):
            found.append(self.take_operand())
        return found

    def take_operand(self):
        """A word, or a type in brackets."""
        if not self.sees("("):
            return self.take_word()
        kind = self.take_kind()
        self.expect(")")
        return kind

    def take_term(self):
        """A term."""
        if self.next_token() == "(":
            return self.take_bracketed()
        binders = []
        head = self.take_word()
        while self.sees("."):
            binders.append(head)
            head = self.take_word()
        return binders, head, self.take_parts()

    def take_bracketed(self):
        """A term in brackets."""
        self.expect("(")
        term = self.take_term()
        self.expect(")")
        return term

    def take_parts(self):
        """The parts of a head."""
        found = []
        while True:
            if self.next_token() == "(":
                found.append(self.take_bracketed())
            elif is_free_word(self.next_token()):
                found.append(([], self.take_word(), []))
            else:
                return found

    def take_goal(self):
        """A goal."""
        found = [self.take_side()]
        while self.sees("|"):
            found.append(self.take_side())
        return found[0] if len(found) == 1 else ("or", found)

    def take_side(self):
        """A side of an or."""
        found = [self.take_unit()]
        while self.sees("&"):
            found.append(self.take_unit())
        return found[0] if len(found) == 1 else ("and", found)

    def take_unit(self):
        """A side of an and."""
        word = self.next_token()
        if word in ("same", "match"):
            return self.take_equation()
        if word in ("some", "all"):
            return self.take_quantified()
        if word == "given":
            return self.take_given()
        if self.sees("true"):
            return ("true",)
        if self.sees("("):
            goal = self.take_goal()
            self.expect(")")
            return goal
        return self.take_atom()

    def take_atom(self):
        """An atom."""
        word = self.take_word()
        return "atom", word, self.take_parts()

    def take_equation(self):
        """A same or a match."""
        tag = self.take()
        left = self.take_term()
        self.expect(",")
        right = self.take_term()
        self.expect(":")
        return tag, left, right, self.take_kind()

    def take_quantified(self):
        """A some or an all."""
        tag = self.take()
        word, kind = self.take_named()
        self.expect(".")
        return tag, word, kind, self.take_goal()

    def take_given(self):
        """A given."""
        self.expect("given")
        self.expect("(")
        rules = [self.take_rule()]
        while self.sees(","):
            rules.append(self.take_rule())
        self.expect(")")
        self.expect(".")
        return "given", rules, self.take_goal()

    def take_named(self):
        """A name and its type."""
        word = self.take_word()
        self.expect(":")
        return word, self.take_kind()

    def take_all_named(self):
        """Names with their types in [ ], which may be missing."""
        if not self.sees("["):
            return []
        found = [self.take_named()]
        while self.sees(","):
            found.append(self.take_named())
        self.expect("]")
        return found

    def take_rule(self):
        """A rule."""
        variables = self.take_all_named()
        head = self.take_atom()
        return variables, head, self.take_goal() if self.sees("if") else ("true",)

    def take_question(self):
        """What stands in a question behind ask, up to its goal."""
        holes = self.take_all_named()
        return holes, self.take_goal()

    def take_statement(self):
        """A statement of a program: a pair of con, and of a word and a type; or a pair of rule, and of a rule."""
        if self.sees("rule"):
            told = ("rule", self.take_rule())
        else:
            self.expect("con")
            told = ("con", self.take_named())
        self.expect(";")
        return told

    def take_asked(self):
        """What a desk is asked: a triple of steps or height, the question, and its numbers."""
        self.expect("ask")
        question = self.take_question()
        if self.sees("height"):
            told = ("height", question, [self.take_number()])
        else:
            self.expect("steps")
            steps = self.take_number()
            self.expect("many")
            told = ("steps", question, [steps, self.take_number()])
        self.expect(";")
        return told
