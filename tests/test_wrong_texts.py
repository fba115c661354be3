"""Point 86: which token of a text is wrong."""

import unittest

from lacuna.errors import LacunaError, TextError
from lacuna.texts import read_program, read_question, read_term, read_type, write_program, write_question
from lacuna.tokens import spaced, tokens_of

from tests.grammar import tokens_by_words, wrong_at
from tests.programs import SMALL, any_case
from tests.samples import A, AA, AAA, FAA, SIGNATURE, random_numbers

P = (SMALL, ())
NAMES = (("x", "y"), (("h", AA), ("g", A)))
LONG = "abcdefghi"          # nine letters
EIGHT = "abcdefgh"


class Case(unittest.TestCase):
    def wrong(self, read, *rows):
        """Each row is a text and the number of the token that is wrong."""
        for text, at in rows:
            with self.subTest(text=text):
                with self.assertRaises(TextError) as caught:
                    read(text)
                self.assertEqual(caught.exception.at, at)
                self.assertIs(type(caught.exception.at), int)
                self.assertIsInstance(caught.exception, LacunaError)


def question(text):
    return read_question(P, text)


def goal(text):
    """Reads the text behind ask, which is the token 0, and ahead of the sign at the end."""
    return read_question(P, f"ask {text} ;")


class WrongTypes(Case):
    def test_grammar(self):
        self.wrong(read_type, ("", 0), (" \n", 0), ("->", 0), ("a ->", 2), ("a -> ->", 2), ("a b", 1), ("(a", 2),
                   ("a)", 1),
                   ("()", 1), ("(a -> b", 4), ("(a -> b))", 5), ("a -> (b c)", 4), ("a . b", 1), ("#", 0), ("a # b", 1),
                   ("a -> #", 2), ("a ->> b", 2), ("a - > b", 1), ("A", 0), ("aB", 1), ("1", 0), ("a -> 7", 2),
                   ("a -> 007", 2), ("a, b", 1), ("a\tb", 1), ("a\t", 1))
        for word in "con rule ask if true some all given same match steps many height".split():
            self.wrong(read_type, (word, 0), (f"a -> {word}", 2), (f"({word}) -> a", 1), (f"a {word}", 1))

    def test_words(self):
        self.wrong(read_type, (LONG, 0), (f"a -> {LONG}", 2), (f"({LONG}) -> a", 1), (f"a -> {LONG} -> {LONG}", 2),
                   ("o -> a", 0), ("a -> o -> a", 2), ("(o) -> a", 1), ("(a -> o) -> a", 3), ("a -> (o -> a)", 3),
                   ("a -> ((b -> o) -> a)", 6), ("o -> o", 0), (f"{LONG} -> o -> a", 0), (f"o -> {LONG}", 0))
        self.assertEqual(read_type(EIGHT), ((), EIGHT))
        self.assertEqual(read_type("a -> (b -> o)")[1], "o")
        # What cannot be continued goes ahead of wrong words, wherever they stand.
        self.wrong(read_type, (f"{LONG} -> ", 2), (f"o -> {LONG} )", 3), ("o -> a b", 3))


class WrongTerms(Case):
    def read(self, kind):
        return lambda text: read_term(SIGNATURE, NAMES, (A, AA), kind, text)

    def test_grammar(self):
        self.wrong(self.read(A), ("", 0), ("(", 1), ("()", 1), ("(c", 2), ("c)", 1), ("s (c", 3), ("s ()", 2),
                   ("s (c))", 4),
                   (". c", 0), ("x .", 2), ("x . . c", 2), ("x . (c)", 2), ("x . y . (c)", 4), ("(c) c", 3),
                   ("(s) c", 3),
                   ("f c . c", 2), ("(x) . c", 3), ("f (x . ) c", 4), ("c -> c", 1), ("c , c", 1), ("c ;", 1),
                   ("s true", 1),
                   ("true", 0), ("if . c", 0), ("s #", 1), ("s 3", 1), ("s c d e )", 4), ("[c]", 0))

    def test_heads(self):
        self.wrong(self.read(A), ("z", 0), ("s z", 1), ("f z c", 1), ("f c z", 2), ("f c (s z)", 4), ("lam (z. w)", 4),
                   ("f (lam (z. z)) z", 9))
        # Heads whose type is another one: the sort, the number of parts, the parts that are left.
        self.wrong(self.read(A), ("d", 0), ("s", 0), ("f c", 0), ("s c c", 0), ("f c c c", 0), ("x x", 0), ("c c", 0),
                   ("h", 0),
                   ("g g", 0), ("y", 0), ("s d", 1), ("s s", 1), ("lam c", 1), ("lam (s c)", 2), ("lam f", 1),
                   ("pred c", 0),
                   ("truth", 0), ("s truth", 1), ("f (s c) (h d)", 7))
        self.wrong(self.read(AA), ("c", 0), ("lam", 0), ("k", 0), ("z. c d", 2), ("f", 0), ("f d", 1), ("z. s", 2),
                   ("d", 0))
        self.wrong(self.read(AAA), ("s", 0), ("z. c", 2), ("y", 0), ("z. f c c c", 2), ("z. f d", 3))
        # Too many binders, however many they are.
        self.wrong(self.read(A), ("z. c", 2), ("z. w. c", 4), ("s (z. c)", 4), (f"{EIGHT}. c", 2))
        self.wrong(self.read(AA), ("z. w. c", 4), ("z. w. v. f", 6), ("z. w. s z", 4))
        # The parts behind a wrong head, and what stands ahead of it.
        self.wrong(self.read(A), ("d z", 0), ("z z", 0), ("f z d", 1), ("f d z", 1), ("f c c z", 0))

    def test_words(self):
        self.wrong(self.read(AA), (f"{LONG}. c", 0), (f"{LONG}. {LONG}", 0), (f"z. {LONG}", 2), (f"{LONG}. z. c", 0),
                   (f"z. {LONG}. c", 2), (f"it (z. {LONG})", 4), (f"{LONG}", 0))
        self.assertEqual(self.read(AA)(f"{EIGHT}. {EIGHT}"), (1, ("b", 0), ()))
        # Names that are hidden: the innermost one counts.
        self.wrong(self.read(AAA), ("s. z. s c", 4), ("c. s c c", 2), ("z. c. s (c c)", 6))
        self.wrong(self.read(FAA), ("s. z. s s", 5), ("c. z. c", 4))


class WrongGoals(Case):
    def test_grammar(self):
        self.wrong(question, ("", 0), ("ask", 1), ("ask ;", 1), ("ask t", 2), ("t;", 0), ("ask t; t", 3),
                   ("ask t;;", 3),
                   ("ask t t", 3), ("rule t;", 0), ("ask [] t;", 2), ("ask [x] t;", 3), ("ask [x : ] t;", 4),
                   ("ask [x : a, ] t;", 6), ("ask [x : a t;", 5), ("ask [true : a] t;", 2), ("ask [x : true] t;", 4),
                   ("ask x : a] t;", 2), ("ask # t;", 1), ("ask t # ;", 2), ("ask t ; #", 3),
                   ("ask t steps 3 many 4;", 2),
                   ("ask t height 3;", 2), ("ask 3;", 1), ("ask (3);", 2))
        self.wrong(goal, ("&", 1), ("t &", 3), ("t & & t", 3), ("t |", 3), ("| t", 1), ("(t", 3), ("t)", 2), ("()", 2),
                   ("(t) t", 4), ("(t) (t)", 4), ("true true", 2), ("true (t)", 2), ("same", 2), ("same c", 3),
                   ("same c c", 4), ("same c , : a", 4), ("same c, c", 5), ("same c, c : ", 6), ("same c, c, c : a", 5),
                   ("same c, c : a -> ", 8), ("same c, c : true", 6), ("same true, c : a", 2), ("match c, c a", 6),
                   ("some", 2), ("some x", 3), ("some x : a", 5), ("some x : a p", 5), ("some x : a . ", 6),
                   ("some x . t", 3), ("all true : a . t", 2), ("all x : . t", 4), ("all (x : a) . t", 2), ("given", 2),
                   ("given t", 2), ("given (", 3), ("given ()", 3), ("given (t)", 5), ("given (t) t", 5),
                   ("given (t, ) . t", 5),
                   ("given (t) . ", 6), ("given (true) . t", 3), ("given ((t)) . t", 3), ("given (t if) . t", 5),
                   ("given (t if t if t) . t", 6), ("given ([x : a] ) . t", 8), ("given ([x : a] true) . t", 8),
                   ("if t", 1), ("t if t", 2), ("some x : a . ,", 6), ("con", 1), ("rule", 1), ("p -> c", 2),
                   ("p [c]", 2))

    def test_words(self):
        self.wrong(question, (f"ask [{LONG} : a] t;", 2), (f"ask [x : {LONG}] t;", 4), ("ask [x : o] t;", 4),
                   ("ask [x : a -> o] t;", 6), ("ask [x : o -> a] t;", 4), ("ask [x : a, x : a] t;", 6),
                   ("ask [x : a, y : a, x : a] t;", 10), ("ask [x : o, x : a] t;", 4), ("ask [x : a, x : o] t;", 6),
                   (f"ask [x : a, x : {LONG}] t;", 6), ("ask [x : (a -> a) -> (a -> o)] t;", 13))
        self.wrong(goal, (f"some {LONG} : a . t", 2), ("some x : o . t", 4), (f"all x : {LONG} . t", 4),
                   ("all x : a -> o . t", 6),
                   ("given ([x : a, x : b] t) . t", 8), ("given ([x : o] t) . t", 6),
                   (f"given ([{LONG} : a] t) . t", 4))
        self.assertEqual(goal(f"some {EIGHT} : {EIGHT} . t")[1][1], ((), EIGHT))
        # Names in different [ ], and of different binders, may be the same.
        question("ask [x : a] some x : a . given ([x : a] p x, [x : a] q x) . p x;")

    def test_predicates(self):
        self.wrong(goal, ("z", 1), ("c", 1), ("s c", 1), ("p", 1), ("p c c", 1), ("t c", 1), ("two c", 1), ("r c c", 2),
                   ("p z", 2), ("two c z", 3), ("two z c", 2), ("p d & p z", 5), ("p s", 2), ("r s s", 3),
                   (f"{LONG}", 1),
                   (f"p {LONG}", 2), ("p (x. c)", 5), ("r (x. y. c) c", 7))
        # A binder or hole of that name hides the predicate.
        self.wrong(goal, ("all p : a . p c", 6), ("some p : a -> a . p c", 8), ("all t : a . t", 6),
                   ("given ([p : a] p c) . t", 8), ("given ([p : a] q p if p c) . t", 11))
        self.wrong(question, ("ask [t : a] t;", 6), ("ask [p : a] p p;", 6))
        goal("all p : a . q p")
        # Rules: heads and bodies.
        self.wrong(goal, ("given (c) . t", 3), ("given (p) . t", 3), ("given ([x : a] p y) . t", 9),
                   ("given ([x : a] p x) . p x", 13),
                   ("given (t if z) . t", 5), ("given (p c, z) . t", 6), ("given ([x : a] t if p x & p y) . t", 14))

    def test_equations(self):
        self.wrong(goal, ("same z, c : a", 2), ("same c, z : a", 4), ("same z, z : a", 2), ("same d, s : a", 4),
                   ("same s, c : a -> a", 4),
                   ("match c, s : a", 4), ("same x. c, c : a", 4), ("same c, x. c : a", 6))
        # The type goes ahead of the terms: they are not looked at if it is wrong.
        self.wrong(goal, ("same z, c : o", 6), ("same z, c : a -> o", 8), (f"same z, c : {LONG}", 6),
                   (f"match {LONG}, z : o", 6),
                   (f"same {LONG}. c, c : o -> a", 8), ("same c, c : a -> o -> a", 8))
        self.wrong(goal, ("z & same z, c : o", 1), ("same z, c : o & z", 6), ("same z, c : b & z", 2),
                   ("same c, c : o | z", 6),
                   ("same z, c : o & same z, c : o", 6), ("same c, c : a & same z, c : o", 13))
        self.wrong(question, ("ask [x : o] same z, c : o;", 4))

    def test_the_least_one(self):
        self.wrong(goal, ("p z & p z", 2), ("z | c", 1), ("all x : o . z", 4), (f"some {LONG} : o . z", 2),
                   ("given (z if z) . z", 3),
                   ("two (s z) z", 4), ("all x : a . z | y", 6))
        # What cannot be continued goes ahead of all that.
        self.wrong(goal, ("p z & p z )", 6), ("z | c |", 5), ("all x : o . z z z z (", 11), (f"some {LONG} : o .", 6),
                   ("same z, c : o z", 7))
        self.wrong(question, ("ask z", 2), ("ask [x : o, x : o] z ; ;", 12))


class WrongPrograms(Case):
    def test_grammar(self):
        self.wrong(read_program, ("con", 1), ("con c", 2), ("con c :", 3), ("con c : a", 4), ("con c : a; con", 6),
                   ("c : a;", 0), (";", 0),
                   ("con c : a;;", 5), ("con c a;", 2), ("con c, d : a;", 2), ("con true : a;", 1), ("rule", 1),
                   ("rule ;", 1), ("rule t", 2),
                   ("con t : o; rule t if;", 8), ("con t : o; rule t t", 8), ("con t : o; rule true;", 6),
                   ("con t : o; rule (t);", 6),
                   ("con t : o; rule t & t;", 7), ("ask t;", 0), ("con t : o; ask t;", 5),
                   ("con c : a; # con d : a;", 5),
                   ("con c : a; 5", 5), ("con c : 5;", 3), ("rule [] t;", 2), ("con c : a, d : a;", 4),
                   ("rule t, t;", 2))

    def test_words(self):
        self.wrong(read_program, (f"con {LONG} : a;", 1), (f"con c : {LONG};", 3), ("con c : a; con c : a;", 6),
                   ("con c : a; con d : a; con c : o;", 11),
                   ("con c : a; con c : o -> a;", 6), ("con c : o -> a;", 3), ("con c : (a -> o) -> a;", 6),
                   ("con c : a -> o -> o;", 5),
                   ("rule t;", 1), ("rule t; con t : o;", 1), ("con t : o; rule p; con p : o;", 6),
                   ("con t : o; rule t if p; con p : o;", 8),
                   ("con p : a -> o; rule p c; con c : a;", 9), ("con t : o; rule [x : a, x : a] t;", 11),
                   ("con t : o; rule [x : o] t;", 9),
                   ("con p : a -> o; rule [x : b] p x;", 14), ("con p : a -> o; rule [p : a] p p;", 13),
                   ("con c : a; rule c;", 6))
        self.assertEqual(read_program(f"con {EIGHT} : {EIGHT};"), (((EIGHT, ((), EIGHT)),), ()))
        self.wrong(read_program, ("con t : o; rule z; con t : o;", 6), ("con t : o; con t : o; rule z;", 6),
                   ("rule z; con c", 5),
                   (f"con c : a; con c : a; con {LONG} : a", 14))


class Any(Case):
    def test_where_tokens_cannot_be_continued(self):
        junk = ("# 007 0 12 ( ) [ ] . , : ; -> & | a x o c abcdefghi con rule ask if true some all given same match "
                "steps many height A - >").split()
        rng = random_numbers(124)
        seen = {"wrong": 0, "other": 0}
        for _ in range(400):
            value, asked = any_case(rng)
            for name, text, read in (
                ("PROGRAM", write_program(value), read_program),
                ("QUESTION", write_question(value, asked), lambda text: read_question(value, text)),
            ):
                tokens = tokens_of(text)[:60]
                at = rng.randrange(len(tokens) + 1)
                way = rng.randrange(4)
                if way == 0:
                    tokens.insert(at, rng.choice(junk))
                elif way == 1:
                    del tokens[at:at + 1]
                elif way == 2:
                    tokens[at:at + 1] = [rng.choice(junk)]
                else:
                    tokens.insert(at, rng.choice(tokens))
                text = rng.choice((" ".join(tokens), "\n".join(tokens), spaced(tokens)))
                expected = wrong_at(name, tokens_by_words(text))
                if expected is not None:
                    self.wrong(read, (text, expected))
                    seen["wrong"] += 1
                    continue
                seen["other"] += 1
                try:
                    read(text)
                except TextError as error:
                    self.assertLess(error.at, len(tokens_by_words(text)))
        self.assertGreater(seen["wrong"], 400)
        self.assertGreater(seen["other"], 10)

    def test_each_beginning(self):
        # A text that is cut off cannot be continued at its end, whatever the words mean.
        rng = random_numbers(125)
        for _ in range(20):
            value, asked = any_case(rng)
            tokens = tokens_of(write_question(value, asked))
            for many in range(min(len(tokens), 60)):
                self.wrong(question, (spaced(tokens[:many]), many))
            tokens = tokens_of(write_program(value))
            ends = [0] + [at + 1 for at, token in enumerate(tokens) if token == ";"]
            for many in range(min(len(tokens), 60)):
                if many not in ends:
                    self.wrong(read_program, (spaced(tokens[:many]), many))


if __name__ == "__main__":
    unittest.main()
