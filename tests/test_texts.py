"""Points 80 to 85: what is read, what is written, and that what is written is read back."""

import unittest

from lacuna.texts import (
    read_program, read_question, read_term, read_type, write_program, write_question, write_term, write_type,
)
from lacuna.tokens import spaced, tokens_of
from lacuna.writing import Writer, word_at

from tests.formulas import FORMULAS, TYPES, class_goal, class_rule
from tests.grammar import tokens_by_words
from tests.programs import (
    CASES, E, LISTS, PLUS, SMALL, T, TRUE, TYPING, any_case, atom, both, equal, every, fact, given, matched, rule,
)
from tests.samples import (
    A, AA, AAA, B, C, D, FA, FAA, GA, KINDS, O, SIGNATURE, any_kinds, any_small, b, c, h, is_plain_data,
    random_numbers,
)

P = (SMALL, ())


class Tokens(unittest.TestCase):
    def test_tokens(self):
        for text, tokens in (
            ("", []), (" \n ", []), ("abc", ["abc"]), ("a b", ["a", "b"]), ("a\nb", ["a", "b"]),
            ("a.b", ["a", ".", "b"]),
            ("a->b", ["a", "->", "b"]), ("(a)", ["(", "a", ")"]), ("[a:b,c]", ["[", "a", ":", "b", ",", "c", "]"]),
            ("a&b|c;", ["a", "&", "b", "|", "c", ";"]), ("12a0", ["12", "a", "0"]), ("0", ["0"]), ("10", ["10"]),
            ("007", ["007"]), ("00", ["00"]), ("a007b", ["a", "007", "b"]), ("#", ["#"]), ("#a", ["#", "a"]),
            ("##a", ["##", "a"]), ("# #", ["#", "#"]), ("#7", ["#", "7"]), ("#07", ["#07"]), ("07#", ["07#"]),
            ("-", ["-"]), ("-->", ["-", "->"]), ("->>", ["->", ">"]), ("aBc", ["a", "B", "c"]),
            ("a\tb", ["a", "\t", "b"]),
            ("a_b", ["a", "_", "b"]), ("\u00e9a", ["\u00e9", "a"]), ("\u0663", ["\u0663"]), ("+-*", ["+-*"]),
        ):
            with self.subTest(text=text):
                self.assertEqual(tokens_of(text), tokens)
                self.assertEqual(tokens_by_words(text), tokens)

    def test_any(self):
        rng = random_numbers(120)
        signs = "ab07 \n()[].,:;->&|#>-1"
        for _ in range(2000):
            text = "".join(rng.choice(signs) for _ in range(rng.randrange(12)))
            self.assertEqual(tokens_of(text), tokens_by_words(text))

    def test_blanks(self):
        self.assertEqual(spaced([]), "")
        self.assertEqual(spaced(["ask", "[", "a", ":", "b", "]", "(", "p", ")", "&", "q", ";"]), "ask [a : b] (p) & q;")
        self.assertEqual(spaced(["(", "x", ".", "f", "(", "g", ")", ")", ",", "("]), "(x. f (g)), (")


class Types(unittest.TestCase):
    def test_written(self):
        for kind, text in (
            (A, "a"), (AA, "a -> a"), (AAA, "a -> a -> a"), (FA, "(a -> a) -> a"), (FAA, "(a -> a) -> a -> a"),
            (GA, "((a -> a) -> a) -> a"), (((A, AA), "b"), "a -> (a -> a) -> b"), (O, "o"),
            (((AA, B), "o"), "(a -> a) -> b -> o"),
            (((), "abcdefgh"), "abcdefgh"),
        ):
            with self.subTest(text=text):
                self.assertEqual(write_type(kind), text)
                self.assertEqual(read_type(text), kind)

    def test_read(self):
        for text, kind in (
            ("(a)", A), ("((a))", A), ("(a -> a)", AA), ("a -> (a)", AA), ("(a) -> a", AA), ("a->(a->a)", AAA),
            ("a -> (a -> (a -> a))", ((A, A, A), "a")), ("a->a->a", AAA), ("(a->a)->(a->a)", FAA), ("((a->a))->a", FA),
            (" a\n->\na ", AA), ("a -> (b -> c)", ((A, B), "c")), ("a -> (b -> (o))", ((A, B), "o")), ("(o)", O),
            ("(a -> (a -> a)) -> a", ((AAA,), "a")), ("oo", ((), "oo")),
        ):
            with self.subTest(text=text):
                self.assertEqual(read_type(text), kind)
                self.assertEqual(read_type(write_type(kind)), kind)
                self.assertTrue(is_plain_data(read_type(text)))

    def test_nested(self):
        text, kind = "a", A
        for _ in range(40):
            text, kind = "(" + text + ")", kind
        self.assertEqual(read_type(text), A)
        text, kind = "a", A
        for _ in range(20):
            text, kind = f"({text}) -> a", ((kind,), "a")
        self.assertEqual(read_type(text), kind)
        self.assertEqual(read_type(" -> ".join(["a"] * 1000)), ((A,) * 999, "a"))


class Terms(unittest.TestCase):
    names = (("x", "y"), (("h", AA), ("g", A)))
    prefix = (A, AA)

    def read(self, text, kind, names=None, prefix=None):
        told = read_term(SIGNATURE, names or self.names, self.prefix if prefix is None else prefix, kind, text)
        self.assertTrue(is_plain_data(told))
        return told

    def test_heads(self):
        for text, kind, term in (
            ("c", A, C), ("d", B, D), ("x", A, b(1)), ("g", A, h(1)), ("s c", A, c("s", C)), ("y x", A, b(0, b(1))),
            ("h x", A, h(0, b(1))), ("f x g", A, c("f", b(1), h(1))),
            ("f (s x) (h c)", A, c("f", c("s", b(1)), h(0, C))),
            ("f (x) ((g))", A, c("f", b(1), h(1))), ("(c)", A, C), ("((s c))", A, c("s", C)),
            ("s(s(s c))", A, c("s", c("s", c("s", C)))),
            ("lam (z. z)", A, c("lam", (1, ("b", 0), ()))), ("lam (z. x)", A, c("lam", (1, ("b", 2), ()))),
            ("lam (z . f z (y z))", A, c("lam", (1, ("c", "f"), (b(0), b(1, b(0)))))),
            ("o", A, c("o")), ("s o", A, c("s", c("o"))),
        ):
            with self.subTest(text=text):
                self.assertEqual(self.read(text, kind), term)

    def test_the_innermost_binder(self):
        # Binders hide binders, holes and constants; holes hide constants.
        self.assertEqual(self.read("x. x", AA), (1, ("b", 0), ()))
        self.assertEqual(self.read("x. y. x", AAA), (2, ("b", 1), ()))
        self.assertEqual(self.read("x. x. x", AAA), (2, ("b", 0), ()))
        self.assertEqual(self.read("x. x. y x", AAA), (2, ("b", 2), (b(0),)))
        self.assertEqual(self.read("g. g", AA), (1, ("b", 0), ()))
        self.assertEqual(self.read("c. c", AA), (1, ("b", 0), ()))
        self.assertEqual(self.read("c. f c g", AA), (1, ("c", "f"), (b(0), h(1))))
        names = (("c", "s"), (("f", AA), ("x", A)))
        self.assertEqual(self.read("f c", A, names), h(0, b(1)))
        self.assertEqual(self.read("s x", A, names), b(0, h(1)))
        names = (("x", "z"), (("x", A),))
        self.assertEqual(self.read("x", A, names), b(1))

    def test_short_terms_become_long(self):
        for text, kind, term in (
            ("f", AAA, (2, ("c", "f"), (b(1), b(0)))), ("x. f x", AAA, (2, ("c", "f"), (b(1), b(0)))),
            ("x. y. f x y", AAA, (2, ("c", "f"), (b(1), b(0)))), ("f c", AA, (1, ("c", "f"), (C, b(0)))),
            ("f x", AA, (1, ("c", "f"), (b(2), b(0)))), ("z. f z", AAA, (2, ("c", "f"), (b(1), b(0)))),
            ("z. f x", AAA, (2, ("c", "f"), (b(3), b(0)))), ("f (y x)", AA, (1, ("c", "f"), (b(1, b(2)), b(0)))),
            ("s", AA, (1, ("c", "s"), (b(0),))), ("y", AA, (1, ("b", 1), (b(0),))), ("h", AA, (1, ("h", 0), (b(0),))),
            ("lam", FA, (1, ("c", "lam"), ((1, ("b", 1), (b(0),)),))), ("lam y", A, c("lam", (1, ("b", 1), (b(0),)))),
            ("lam s", A, c("lam", (1, ("c", "s"), (b(0),)))), ("lam (z. s z)", A, c("lam", (1, ("c", "s"), (b(0),)))),
            ("lam (f c)", A, c("lam", (1, ("c", "f"), (C, b(0))))),
            ("it", FAA, (2, ("c", "it"), ((1, ("b", 2), (b(0),)), b(0)))),
            ("it y", AA, (1, ("c", "it"), ((1, ("b", 2), (b(0),)), b(0)))),
            ("z. it z", FAA, (2, ("c", "it"), ((1, ("b", 2), (b(0),)), b(0)))),
            ("it (z. f x z)", AA, (1, ("c", "it"), ((1, ("c", "f"), (b(3), b(0))), b(0)))),
        ):
            with self.subTest(text=text):
                self.assertEqual(self.read(text, kind), term)

    def test_written(self):
        for holes, prefix, kind, term, text in (
            ((), (), A, C, "c"), ((), (), A, c("f", C, c("s", C)), "f c (s c)"),
            ((), (), AA, (1, ("b", 0), ()), "a. a"), ((), (), AAA, (2, ("c", "f"), (b(0), b(1))), "a. b. f b a"),
            # The constants c, d, f, g, k, o and s keep their names to themselves.
            ((), (A, A, A, A), A, c("f", b(0), b(3)), "f h a"),
            ((A, AA), (A,), A, c("f", h(0), h(1, b(0))), "f b (e a)"),
            ((), (), A, c("lam", (1, ("c", "lam"), ((1, ("c", "f"), (b(0), b(1))),))),
             "lam (a. lam (b. f b a))"),
            ((), (A,), A, c("lam", (1, ("b", 1), ())), "lam (b. a)"), ((), (AA,), AA, (1, ("b", 1), (b(0),)), "b. a b"),
            ((), (AA,), FAA, (2, ("b", 1), (b(2, b(0)),)), "b. e. b (a e)"),
            # Names are free again behind their term.
            ((), (), A, c("f", c("lam", (1, ("b", 0), ())), c("lam", (1, ("b", 0), ()))),
             "f (lam (a. a)) (lam (a. a))"),
            ((), (FA,), A, b(0, (1, ("b", 0), ())), "a (b. b)"),
        ):
            with self.subTest(text=text):
                kept = repr((holes, prefix, kind, term))
                told = write_term(SIGNATURE, holes, prefix, kind, term)
                self.assertEqual(told, text)
                self.assertIs(type(told), str)
                self.assertEqual(repr((holes, prefix, kind, term)), kept)

    def given_names(self, prefix, holes):
        """The names that write_term gives."""
        taken = {name for name, _ in SIGNATURE}
        free = [word for word in map(word_at, range(60)) if word not in taken]
        n = len(prefix)
        return tuple(free[:n]), tuple(zip(free[n:], holes))

    def test_any(self):
        rng = random_numbers(121)
        for _ in range(600):
            holes, prefix = any_kinds(rng, 4), any_kinds(rng, 4)
            kind = rng.choice(KINDS)
            term = any_small(rng, holes, prefix, kind)
            text = write_term(SIGNATURE, holes, prefix, kind, term)
            self.assertNotIn("\n", text)
            self.assertEqual(read_term(SIGNATURE, self.given_names(prefix, holes), prefix, kind, text), term)
            self.assertEqual(spaced(tokens_by_words(text)), text)

    def test_large_terms(self):
        term = C
        for _ in range(99):
            term = c("s", term)
        self.assertEqual(write_term(SIGNATURE, (), (), A, term), "s (" * 98 + "s c" + ")" * 98)
        self.assertEqual(self.read("s (" * 39 + "s c" + ")" * 39, A)[1], ("c", "s"))


class Goals(unittest.TestCase):
    def both_ways(self, goal, text, holes=()):
        with self.subTest(text=text):
            names = "".join(f"{name} : a, " for name in "ab"[:len(holes)])
            ahead = f"[{names[:-2]}] " if holes else ""
            self.assertEqual(write_question(P, (holes, goal)), f"ask {ahead}{text};")
            self.assertEqual(read_question(P, f"ask {ahead}{text};"), (holes, goal))
            self.assertEqual(read_question(P, f"ask{ahead} ({text});"), (holes, goal))

    def test_each_form(self):
        t = atom("t")
        for goal, text in (
            (TRUE, "true"), (t, "t"), (atom("p", C), "p c"), (atom("two", C, c("s", C)), "two c (s c)"),
            (atom("r", (1, ("b", 0), ()), C), "r (a. a) c"), (equal(A, C, c("s", C)), "same c, s c : a"),
            (equal(AA, (1, ("b", 0), ()), (1, ("c", "s"), (b(0),))), "same a. a, a. s a : a -> a"),
            (matched(A, C, C), "match c, c : a"), (both(t, TRUE), "t & true"), (("or", t, TRUE), "t | true"),
            (("some", A, atom("p", b(0))), "some a : a. p a"),
            (("all", AA, atom("p", b(0, C))), "all a : a -> a. p (a c)"),
            (every((A, A), atom("two", b(0), b(1))), "all a : a. all b : a. two b a"),
            (given([fact("t")], t), "given (t). t"), (given([fact("t"), fact("p", C)], t), "given (t, p c). t"),
            (given([rule((A, AA), "p", (b(1),), atom("p", b(0, b(1))))], t),
             "given ([a : a, b : a -> a] p a if p (b a)). t"),
            (given([rule((), "t", (), given([fact("t")], both(t, t)))], t), "given (t if given (t). t & t). t"),
        ):
            self.both_ways(goal, text)
        self.both_ways(atom("two", h(1), h(0)), "two b a", (A, A))
        self.both_ways(("all", A, atom("two", h(0), b(0))), "all b : a. two a b", (A,))

    def test_brackets(self):
        # Each kind of goal on each side of each sign.
        one, two = atom("t"), TRUE
        kinds = {
            "and": (both(one, two), "t & true"), "or": (("or", one, two), "t | true"),
            "some": (("some", A, one), "some a : a. t"), "all": (("all", A, one), "all a : a. t"),
            "given": (given([fact("t")], one), "given (t). t"), "atom": (one, "t"), "true": (two, "true"),
            "equal": (equal(A, C, C), "same c, c : a"), "match": (matched(A, C, C), "match c, c : a"),
        }
        for tag, (goal, text) in kinds.items():
            first = tag in ("and", "or", "some", "all", "given")
            self.both_ways(("and", goal, one), f"({text}) & t" if first else f"{text} & t")
            self.both_ways(("and", one, goal), f"t & ({text})" if tag == "or" else f"t & {text}")
            first = tag in ("or", "some", "all", "given")
            self.both_ways(("or", goal, one), f"({text}) | t" if first else f"{text} | t")
            self.both_ways(("or", one, goal), f"t | {text}")
            self.both_ways(("some", A, both(one, goal)), f"some a : a. t & ({text})" if tag == "or" else
                           f"some a : a. t & {text}" if tag not in ("some", "all") else
                           f"some a : a. t & {text.replace('a :', 'b :')}")

    def test_brackets_around_an_and(self):
        # On the first side of | an and stands in brackets if it ends with what goes to the right.
        t = atom("t")
        some, text = ("some", A, t), "some a : a. t"
        self.both_ways(("or", both(t, some), t), f"(t & {text}) | t")
        self.both_ways(("or", both(t, t, some), t), f"(t & t & {text}) | t")
        self.both_ways(("or", both(t, t, t, ("all", A, t)), t), "(t & t & t & all a : a. t) | t")
        self.both_ways(("or", both(t, given([fact("t")], t)), t), "(t & given (t). t) | t")
        self.both_ways(("or", both(some, t), t), f"({text}) & t | t")
        self.both_ways(("or", both(t, both(some, t)), t), f"t & ({text}) & t | t")
        self.both_ways(("or", both(t, ("or", t, some)), t), f"t & (t | {text}) | t")
        self.both_ways(("or", t, both(t, some)), f"t | t & {text}")
        self.both_ways(("or", ("or", t, t), ("or", t, t)), "(t | t) | t | t")
        self.both_ways(both(both(t, t), t, t), "(t & t) & t & t")
        self.both_ways(("some", A, ("or", t, t)), "some a : a. t | t")
        self.both_ways(both(("some", A, ("or", t, t)), t), "(some a : a. t | t) & t")

    def test_read(self):
        t = atom("t")
        step = (1, ("c", "s"), (b(0),))
        for text, goal in (
            ("t&t|t", ("or", both(t, t), t)), ("t|t&t", ("or", t, both(t, t))), ("t | t | t", ("or", t, ("or", t, t))),
            ("t & t & t", both(t, t, t)), ("(t & t) & t", both(both(t, t), t)), ("((t))", t), ("(true)", TRUE),
            ("all x : a . t & t | t", ("all", A, ("or", both(t, t), t))),
            ("t & all x : a . t | t", both(t, ("all", A, ("or", t, t)))),
            ("(all x : a . t) | t", ("or", ("all", A, t), t)), ("given(t).t|t", given([fact("t")], ("or", t, t))),
            ("same c , c : a & t", both(equal(A, C, C), t)),
            ("same s, s : a -> a | t", ("or", equal(AA, step, step), t)),
            ("same s, (s) : (a -> a)", equal(AA, step, step)),
            ("p (c)", atom("p", C)), ("p ((s c))", atom("p", c("s", C))),
            ("r s c", atom("r", (1, ("c", "s"), (b(0),)), C)),
            ("all p : a. some t : a -> a. two (t p) p", ("all", A, ("some", AA, atom("two", b(0, b(1)), b(1))))),
            ("all c : a. p c", ("all", A, atom("p", b(0)))), ("all x : a. all x : a. p x",
                                                              every((A, A), atom("p", b(0)))),
            ("all x : a. given ([x : a] p x if two x x, q x). p x",
             ("all", A, given([rule((A,), "p", (b(0),), atom("two", b(0), b(0))), fact("q", b(0))], atom("p", b(0))))),
            ("given (t if t & t | t, t). t", given([rule((), "t", (), ("or", both(t, t), t)), fact("t")], t)),
            ("given (t if all x : a. t, t if true). t", given([rule((), "t", (), ("all", A, t)), fact("t")], t)),
            ("some o : a. p o", ("some", A, atom("p", b(0)))),
        ):
            with self.subTest(text=text):
                self.assertEqual(read_question(P, f"ask {text} ;"), ((), goal))
                self.assertEqual(read_question(P, write_question(P, ((), goal))), ((), goal))

    def test_holes(self):
        for text, question in (
            ("ask[x:a]p x;", ((A,), atom("p", h(0)))), ("ask [ x : a , y : a -> a ] p (y x) ;",
                                                        ((A, AA), atom("p", h(1, h(0))))),
            ("ask [c : a] p c;", ((A,), atom("p", h(0)))), ("ask [x : a] all x : a. p x;",
                                                            ((A,), ("all", A, atom("p", b(0))))),
            ("ask [s : a] all x : a -> a. p (x s);", ((A,), ("all", AA, atom("p", b(0, h(0)))))),
            ("ask\ntrue\n;", ((), TRUE)),
        ):
            with self.subTest(text=text):
                self.assertEqual(read_question(P, text), question)
                self.assertEqual(read_question(P, write_question(P, question)), question)


class Programs(unittest.TestCase):
    def test_written(self):
        self.assertEqual(write_program(((), ())), "")
        self.assertEqual(write_program(PLUS), (
            "con z : a;\ncon s : a -> a;\ncon plus : a -> a -> a -> o;\nrule [a : a] plus z a a;\n"
            "rule [a : a, b : a, c : a] plus (s a) b (s c) if plus a b c;\n"))
        self.assertEqual(write_program(TYPING), (
            "con lam : (t -> t) -> t;\ncon app : t -> t -> t;\ncon arr : e -> e -> e;\ncon of : t -> e -> o;\n"
            "rule [a : t -> t, b : e, c : e] of (lam (d. a d)) (arr b c) if all d : t. given (of d b). of (a d) c;\n"
            "rule [a : t, b : t, c : e, d : e] of (app a b) d if of a (arr c d) & of b c;\n"))
        self.assertEqual(write_program(((("p", O),), (fact("p"), rule((), "p", (), atom("p"))))),
                         "con p : o;\nrule p;\nrule p if p;\n")

    def test_point_47(self):
        text = """
            con lam : (t -> t) -> t ; con app : t -> t -> t ; con arr : e -> e -> e ; con of : t -> e -> o ;
            rule [ f : t -> t, a : e, b : e ] of (lam f) (arr a b) if all x : t . given (of x a) . of (f x) b ;
            rule [ m : t, n : t, a : e, b : e ] of (app m n) b if of m (arr a b) & of n a ;
        """
        self.assertEqual(read_program(text), TYPING)
        self.assertTrue(is_plain_data(read_program(text)))

    def test_read(self):
        for text, told in (
            ("", ((), ())), (" \n", ((), ())), ("con p:o;rule p;", ((("p", O),), (fact("p"),))),
            # A constant is told ahead of the rules that have it; others may come behind.
            ("con p : o; rule p; con q : o; rule q if p;", ((("p", O), ("q", O)),
                                                            (fact("p"), rule((), "q", (), atom("p"))))),
            ("con p : a -> (o); con c : (a); rule p c;", ((("p", ((A,), "o")), ("c", A)), (fact("p", C),))),
            ("con o : a; con p : a -> o; rule p o;", ((("o", A), ("p", ((A,), "o"))), (fact("p", c("o")),))),
            ("con a : a; con p : a -> o; rule [a : a] p a;", ((("a", A), ("p", ((A,), "o"))),
                                                              (rule((A,), "p", (b(0),)),))),
            ("con p : o; rule p if true; rule p if (true);", ((("p", O),), (fact("p"), fact("p")))),
        ):
            with self.subTest(text=text):
                self.assertEqual(read_program(text), told)
                self.assertEqual(read_program(write_program(told)), told)

    def test_what_is_not_of_the_class(self):
        text = "con c : a; con p : a -> o; rule [f : a -> a] p (f c);"
        self.assertEqual(read_program(text)[1], (rule((AA,), "p", (b(0, C),)),))
        self.assertEqual(write_program(read_program(text)),
                         "con c : a;\ncon p : a -> o;\nrule [a : a -> a] p (a c);\n")

    def test_any(self):
        rng = random_numbers(122)
        for _ in range(300):
            value, question = any_case(rng)
            text = write_program(value)
            self.assertEqual(read_program(text), value)
            self.assertEqual("".join(spaced(tokens_by_words(line)) + "\n" for line in text.split("\n")[:-1]), text)
            text = write_question(value, question)
            self.assertEqual(read_question(value, text), question)
            self.assertEqual(spaced(tokens_by_words(text)), text)
        for _ in range(150):
            holes = tuple(rng.choice(TYPES) for _ in range(rng.randrange(4)))
            rules = tuple(class_rule(rng, FORMULAS, (), 3) for _ in range(rng.randrange(3)))
            goal = class_goal(rng, FORMULAS, (), 6, holes)
            self.assertEqual(read_program(write_program((FORMULAS, rules))), (FORMULAS, rules))
            text = write_question((FORMULAS, ()), (holes, goal))
            self.assertEqual(read_question((FORMULAS, ()), text), (holes, goal))

    def test_brackets_and_blanks_that_are_not_needed(self):
        rng = random_numbers(123)
        for value, question in CASES + tuple(any_case(rng) for _ in range(60)):
            tokens = tokens_of(write_question(value, question))
            loose = " \n ".join(tokens)
            self.assertEqual(read_question(value, loose), question)
            # Blanks are needed between two words alone.
            tight = ""
            for at, token in enumerate(tokens):
                if at and token[0].isalpha() and tokens[at - 1][0].isalpha():
                    tight += "\n"
                tight += token
            self.assertEqual(read_question(value, tight), question)
        self.assertEqual(read_program(write_program(LISTS).replace("\n", "").replace(": ", ":")), LISTS)


class Names(unittest.TestCase):
    def test_the_list(self):
        self.assertEqual([word_at(k) for k in (0, 1, 25, 26, 27, 51, 52, 701, 702)],
                         ["a", "b", "z", "aa", "ab", "az", "ba", "zz", "aaa"])
        words = [word_at(k) for k in range(20000)]
        self.assertEqual(len(set(words)), 20000)
        self.assertEqual(words, sorted(words, key=lambda word: (len(word), word)))

    def test_reserved_words_are_left_out(self):
        taken = {word_at(k): A for k in range(18279)}
        free = [word for word in ("con", "ask", "all") if word in taken]
        self.assertEqual(free, ["con", "ask", "all"])
        for word, behind in (("if", "ig"), ("con", "coo"), ("ask", "asl"), ("all", "alm")):
            constants = {name: A for name in taken if (len(name), name) < (len(word), word)}
            self.assertEqual(Writer(constants, (), (), ()).fresh([]), behind)

    def test_names_that_are_taken(self):
        signature = (("a", A), ("b", AA), ("d", A), ("p", ((A, A), "o")))
        value = (signature, ())
        question = ((A, A), ("all", A, ("some", A, both(("all", A, atom("p", b(0), h(1))), atom("p", b(1), h(0))))))
        self.assertEqual(write_question(value, question),
                         "ask [c : a, e : a] all f : a. some g : a. (all h : a. p h e) & p f c;")
        rules = (rule((A, A), "p", (b(0), b(1)), given([rule((A,), "p", (b(0), b(1)))],
                                                       ("all", A, atom("p", b(0), b(2))))),)
        self.assertEqual(write_program((signature, rules)).split("\n")[4],
                         "rule [c : a, e : a] p e c if given ([f : a] p f e). all f : a. p f c;")
        # Names of types are no names of things.
        self.assertEqual(write_question(((("p", ((B,), "o")),), ()), ((B,), atom("p", h(0)))), "ask [a : b] p a;")

    def test_sorts_and_constants_may_have_one_name(self):
        told = read_program("con t : t; con e : t -> e; con of : t -> e -> o; rule of t (e t);")
        self.assertEqual(told, ((("t", T), ("e", ((T,), "e")), ("of", ((T, E), "o"))),
                                (fact("of", c("t"), c("e", c("t"))),)))
        self.assertEqual(read_program(write_program(told)), told)


if __name__ == "__main__":
    unittest.main()
