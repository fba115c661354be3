"""Points 90 and 91."""

import unittest

from lacuna.desk import Desk
from lacuna.heights import by_height
from lacuna.machine import Machine
from lacuna.plain import search
from lacuna.rules import check_question
from lacuna.texts import read_program, read_question, read_term, read_type, write_program, write_question
from lacuna.tokens import tokens_of

from tests.grammar import tokens_by_words, wrong_at
from tests.programs import CASES, DOUBLE, LISTS, PLUS, SMALL, TYPING, WIDE, any_case
from tests.samples import is_plain_data, random_numbers
from tests.searches import terms_of_rows

BASE = """
con c : a; con d : a; con s : a -> a; con f : a -> a -> a; con lam : (a -> a) -> a;
con p : a -> o; con q : a -> o; con two : a -> a -> o; con t : o;
"""


class Case(unittest.TestCase):
    def desk(self, text=""):
        desk = Desk()
        self.assertEqual(desk.take(BASE + text), [])
        return desk

    def tells(self, desk, *rows):
        """Each row is a text and the lines it is answered with; the program is as before."""
        for text, *lines in rows:
            with self.subTest(text=text):
                before = desk.program()
                told = desk.take(text)
                self.assertEqual(told, lines)
                self.assertIs(type(told), list)
                self.assertTrue(is_plain_data(tuple(told)))
                self.assertEqual(desk.program(), before)


class Statements(Case):
    def test_empty(self):
        desk = Desk()
        self.assertEqual(desk.program(), ((), ()))
        for text in ("", " ", "\n \n"):
            self.tells(desk, (text,))
        self.assertEqual(Desk().take("ask true steps 1 many 1;"), ["1: yes", "many after 1"])

    def test_constants_and_rules(self):
        desk = Desk()
        for at, (text, program) in enumerate((
            ("con c : a;", "con c : a;"), ("con p : a -> o; rule p c;", "con c : a; con p : a -> o; rule p c;"),
            ("rule [x : a] p x if p c;\ncon d : a;",
             "con c : a; con p : a -> o; con d : a; rule p c; rule [x : a] p x if p c;"),
            ("rule p d;", "con c : a; con p : a -> o; con d : a; rule p c; rule [x : a] p x if p c; rule p d;"),
        )):
            self.assertEqual(desk.take(text), [])
            self.assertEqual(desk.program(), read_program(program), at)
            self.assertTrue(is_plain_data(desk.program()))

    def test_written_programs(self):
        for program in (PLUS, TYPING, LISTS, (SMALL, ())):
            desk = Desk()
            self.assertEqual(desk.take(write_program(program)), [])
            self.assertEqual(desk.program(), program)

    def test_errors(self):
        self.tells(
            self.desk(),
            (";", "error 0"), (";;", "error 0", "error 0"), ("#;", "error 0"), ("# #", "error 0"), ("p c;", "error 0"),
            ("con", "error 1"), ("con;", "error 1"), ("con c : a;", "error 1"), ("con e : a", "error 4"),
            ("con e : o -> a;", "error 3"),
            ("con e : a -> (a -> o) -> a;", "error 8"), ("con abcdefghi : a;", "error 1"), ("con e, g : a;", "error 2"),
            ("rule", "error 1"), ("rule t", "error 2"), ("rule z;", "error 1"), ("rule p z;", "error 2"),
            ("rule t if p;", "error 3"),
            ("rule [x : a, x : a] t;", "error 6"), ("rule [x : o] t;", "error 4"), ("rule c;", "error 1"),
            ("ask", "error 1"), ("ask t", "error 2"), ("ask t;", "error 2"), ("ask t steps;", "error 3"),
            ("ask t steps 3;", "error 4"),
            ("ask t steps 3 many;", "error 5"), ("ask t steps 3 many 4", "error 6"),
            ("ask t steps 3 many 4 5;", "error 6"),
            ("ask t height;", "error 3"), ("ask t height 3", "error 4"), ("ask t height 3 many 4;", "error 4"),
            ("ask t many 4 steps 3;", "error 2"),
            ("ask z steps 3 many 4;", "error 1"), ("ask p z height 3;", "error 2"),
            ("ask [x : o] t height 3;", "error 4"),
            ("ask t steps x many 3;", "error 3"), ("ask t steps 007 many 3;", "error 3"),
            ("ask t steps 3 many 4 # ;", "error 6"),
            ("steps 3;", "error 0"), ("height 3;", "error 0"), ("true;", "error 0"), ("ask [] t height 1;", "error 2"),
        )

    def test_numbers(self):
        desk = self.desk()
        for text, at in (
            ("ask true steps 0 many 1;", None), ("ask true steps 20000 many 200;", None),
            ("ask true steps 20001 many 1;", 3),
            ("ask true steps 1 many 0;", 5), ("ask true steps 1 many 201;", 5), ("ask true steps 1 many 200;", None),
            ("ask true height 0;", None), ("ask true height 30;", None), ("ask true height 31;", 3),
            ("ask true steps 99999999999999999999 many 0;", 3), ("ask true height 100000000000000000000;", 3),
            (f"ask true height {'9' * 3900};", 3), (f"ask true steps 1 many 1{'0' * 3900};", 5),
            # The least number of a wrong token.
            ("ask z steps 20001 many 1;", 1), ("ask p z steps 20001 many 0;", 2), ("ask z height 31;", 1),
            ("ask true steps 20001 many 201;", 3), ("ask true steps 20001 many;", 5), ("ask true height 31", 4),
            ("ask same z, c : o height 31;", 6),
        ):
            with self.subTest(text=text):
                told = desk.take(text)
                if at is None:
                    self.assertNotIn("error", told[0])
                else:
                    self.assertEqual(told, [f"error {at}"])

    def test_they_count_within_the_statement(self):
        desk = self.desk()
        self.assertEqual(desk.take("con e : a; con e : a; rule p e; rule p z; ask p z height 1; #"),
                         ["error 1", "error 2", "error 2", "error 0"])
        self.assertEqual(desk.program()[1], (((), "p", ((0, ("c", "e"), ()),), ("true",)),))

    def test_the_last_one_without_its_sign(self):
        desk = self.desk()
        for text, at in (("con e : a", 4), ("rule t", 2), ("ask t height 1", 4), ("ask z height 1", 4),
                         ("con c : a", 4)):
            self.assertEqual(desk.take(f"rule p c; {text}"), [f"error {at}"])
        self.assertEqual(len(desk.program()[1]), 5)

    def test_several_texts(self):
        desk = self.desk("rule p c;")
        self.assertEqual(desk.take("ask [x : a] p x height 2;"), ["1: x = c", "closed"])
        self.assertEqual(desk.take("rule p d; ask [x : a] p x height 2; rule p (s c);"),
                         ["1: x = c", "2: x = d", "closed"])
        self.assertEqual(desk.take("ask [x : a] p x height 2;"), ["1: x = c", "2: x = d", "3: x = s c", "closed"])
        # A statement does not go from one text to the next one.
        self.assertEqual(desk.take("ask t"), ["error 2"])
        self.assertEqual(desk.take("height 2;"), ["error 0"])
        other = Desk()
        self.assertEqual(other.program(), ((), ()))

    def test_the_order(self):
        desk = Desk()
        self.assertEqual(desk.take("rule t; con t : o; ask t height 1; rule t; ask t height 1; ask z height 1;"
                                   "con z : o; ask z height 1;"),
                         ["error 1", "closed", "1: yes", "closed", "error 1", "closed"])


class Class(Case):
    def test_rules_and_questions(self):
        desk = self.desk("con r : (a -> a) -> a -> o;")
        self.tells(
            desk,
            ("rule [x : a -> a] p (x c);", "class"), ("rule [x : a -> a, y : a] p y if same x y, y : a;", "class"),
            ("ask some x : a -> a. p (x c) steps 1 many 1;", "class"), ("ask [x : a -> a] p (x c) height 1;", "class"),
            ("ask [x : a -> a -> a] all y : a. p (x y y) height 1;", "class"),
        )
        self.assertEqual(desk.take("rule [x : a -> a] r (y. x y) c;"), [])
        # Within a match there may be any parts.
        self.assertEqual(desk.take("ask [x : a -> a] match x c, c : a steps 5 many 5;"),
                         ["1: x = a. a", "2: x = a. c", "closed after 1"])

    def test_constants(self):
        high = "con high : ((a -> a) -> a) -> a;"
        desk = self.desk("rule t if match c, c : a;")
        self.tells(desk, (high, "class"), ("con high : (((a -> a) -> a) -> a) -> a -> a;", "class"))
        self.assertEqual(desk.take("con high : ((a -> a) -> a) -> o; con flat : (a -> a) -> a;"), [])
        desk = self.desk(high)
        self.tells(desk, ("rule t if match c, c : a;", "class"), ("ask match c, c : a steps 3 many 3;", "class"))
        self.assertEqual(desk.take("rule t if same c, c : a; ask t steps 3 many 3;"), ["1: yes", "closed after 2"])

    def test_match_by_height(self):
        desk = self.desk()
        self.tells(
            desk,
            ("ask match c, c : a height 3;", "match"), ("ask given (t if match c, c : a) . true height 3;", "match"),
            ("ask [x : a] match c, x : a height 0;", "match"),
            ("ask match c, c : a steps 3 many 3;", "1: yes", "closed after 1"),
        )
        self.assertEqual(desk.take("rule t if match c, c : a;"), [])
        self.tells(desk, ("ask true height 3;", "match"), ("ask t height 0;", "match"),
                   ("ask true steps 1 many 9;", "1: yes", "closed after 1"))

    def test_which_goes_ahead(self):
        desk = self.desk("rule p c if match c, c : a; rule [x : a] q x if q x; rule [x : a] q x if q x;")
        # A wrong token ahead of all, then class, then match, then limit.
        self.tells(
            desk,
            ("ask [x : a -> a] q z & q (x c) height 30;", "error 9"),
            ("ask [x : a -> a] q (x c) & match c, c : a height 31;", "error 21"),
            ("ask [x : a -> a] q (x c) height 30;", "class"), ("ask [x : a -> a] q (x c) & match c, c : a height 30;",
                                                               "class"),
            ("ask [x : a] q x height 30;", "match"),
        )

    def test_limit(self):
        # 2048 answers are more than a match may have.
        term = "f (f c c) (f c c)"
        desk = self.desk()
        text = f"ask [x : a -> a] match x c, f (f ({term}) ({term})) (f c (f c c)) : a steps 5 many 5;"
        self.tells(desk, (text, "limit"))
        desk = self.desk("rule [x : a] q x if q x; rule [x : a] q x if q x;")
        before = desk.program()
        told = desk.take("ask [x : a] q x height 30;")
        self.assertIn(told, (["limit"], ["open"]))
        self.assertEqual(desk.program(), before)
        # What was told before the limit is not told either.
        text = f"ask [x : a -> a] true | match x c, f (f ({term}) ({term})) (f c (f c c)) : a steps 5 many 5;"
        self.tells(self.desk(), (text, "limit"))


class Answers(Case):
    def test_yes(self):
        desk = self.desk("rule t; rule t if t;")
        self.tells(
            desk,
            ("ask true steps 9 many 9;", "1: yes", "closed after 1"),
            ("ask t steps 3 many 9;", "1: yes", "steps after 3"),
            ("ask t steps 9 many 2;", "1: yes", "2: yes", "many after 4"),
            ("ask p c steps 9 many 9;", "closed after 1"),
            ("ask t height 2;", "1: yes", "2: yes", "open"), ("ask p c height 0;", "open"),
            ("ask p c height 1;", "closed"),
            # Holes that are left in the rows alone are not told.
            ("ask some x : a. true steps 9 many 9;", "1: yes", "closed after 2"),
        )

    def test_values(self):
        desk = self.desk("rule two c d; rule [x : a, y : a] two (s x) (f y x) if two x y;")
        self.tells(
            desk,
            ("ask [x : a, y : a] two x y steps 9 many 2;", "1: x = c, y = d", "2: x = s c, y = f d c", "many after 4"),
            ("ask [y : a, x : a] two x y steps 2 many 2;", "1: y = d, x = c", "steps after 2"),
            ("ask [x : a -> a] all y : a. same x y, f y c : a height 0;", "1: x = a. f a c", "closed"),
            ("ask [x : a] same x, lam (y. s y) : a height 0;", "1: x = lam (a. s a)", "closed"),
        )

    def test_holes_that_are_left(self):
        desk = self.desk()
        self.tells(
            desk,
            ("ask [x : a] true steps 1 many 9;", "1: x = a for a : a", "closed after 1"),
            ("ask [x : a, y : a -> a] true height 1;", "1: x = a, y = e. b e for a : a, b : a -> a", "closed"),
            ("ask [x : a, y : a] same x, y : a height 1;", "1: x = a, y = a for a : a", "closed"),
            ("ask [x : a -> a, y : a] same y, lam (z. x z) : a height 1;",
             "1: x = b. a b, y = lam (b. a b) for a : a -> a", "closed"),
            ("ask [x : (a -> a) -> a] true height 1;", "1: x = b. a (e. b e) for a : (a -> a) -> a", "closed"),
        )

    def test_names_that_are_taken(self):
        # Names of the question's holes, of constants (c, d, f, p, q, s, t), and of the holes that are left.
        self.tells(
            self.desk(),
            ("ask [a : a] true height 1;", "1: a = b for b : a", "closed"),
            ("ask [b : a, a : a] true height 1;", "1: b = e, a = g for e : a, g : a", "closed"),
            ("ask [a : a -> a] true height 1;", "1: a = e. b e for b : a -> a", "closed"),
            ("ask [a : a -> a, b : a -> a -> a] true height 1;",
             "1: a = h. e h, b = h. i. g h i for e : a -> a, g : a -> a -> a", "closed"),
            # A binder of a value has none of these names, though nothing in its own value has it.
            ("ask [a : a -> a, b : a] all x : a. same a x, x : a height 1;", "1: a = g. g, b = e for e : a", "closed"),
            # A hole may have the name of a constant.
            ("ask [c : a, d : a -> a] true height 1;", "1: c = a, d = e. b e for a : a, b : a -> a", "closed"),
        )

    def test_holes_in_the_rows_alone(self):
        desk = self.desk("rule [x : a, y : a] p x;")
        self.tells(
            desk,
            ("ask [x : a] p x steps 5 many 5;", "1: x = a for a : a", "closed after 2"),
            ("ask [x : a] some y : a -> a. same x, c : a height 0;", "1: x = c", "closed"),
            ("ask [x : a] some y : a. true height 0;", "1: x = a for a : a", "closed"),
        )

    def test_types(self):
        self.tells(Desk(), ("ask [x : (a -> b) -> c, y : a -> b] true height 0;",
                            "1: x = c. a (d. c d), y = c. b c for a : (a -> b) -> c, b : a -> b", "closed"))

    def test_each_end(self):
        desk = self.desk("rule t if t; rule p c; rule [x : a] p (s x) if p x; rule two c c; "
                         "rule [x : a, y : a] two (s x) (f y y) if two x y;")
        nine = "s (" * 8 + "s c" + ")" * 8
        self.tells(
            desk,
            ("ask q c steps 5 many 5;", "closed after 1"), ("ask t steps 5 many 5;", "steps after 5"),
            ("ask t steps 0 many 5;", "steps after 0"),
            ("ask p c steps 5 many 1;", "1: yes", "many after 2"),
            ("ask [x : a] match c, x : a steps 5 many 5;", "stuck after 1"),
            ("ask [x : a] same x, c : a | match c, x : a steps 5 many 5;", "1: x = c", "stuck after 3"),
            (f"ask [x : a] two ({nine}) x steps 50 many 5;", "large after 11"),
            (f"ask [x : a] two ({nine}) x height 30;", "large"),
            (f"ask [x : a] same x, d : a | two ({nine}) x height 30;", "1: x = d", "large"),
            ("ask t height 30;", "open"), ("ask q c height 1;", "closed"),
            ("ask [x : a] p x height 2;", "1: x = c", "2: x = s c", "open"),
        )


class Same(Case):
    """A question asked at a desk, by search, by a machine and by height has the same answers."""

    def hole_names(self, text):
        tokens = tokens_of(text)
        return [tokens[at - 1] for at in range(1, len(tokens)) if tokens[at] == ":"]

    def check(self, value, question, steps, many):
        program = write_program(value)
        asked = write_question(value, question)[:-1]
        desk = Desk()
        self.assertEqual(desk.take(program), [])
        told = search(value, question, steps, many)
        self.assertEqual(Machine(value).ask(question, steps, many), told)
        lines = desk.take(f"{asked} steps {steps} many {many};")
        self.assertEqual(lines[-1], f"{told[1]} after {told[2]}")
        self.assertEqual(len(lines), len(told[0]) + 1)
        for k, (answer, line) in enumerate(zip(told[0], lines), start=1):
            self.compare(value, question, asked, answer, line, k)
        return told

    def compare(self, value, question, asked, answer, line, k):
        types, values, rows = answer
        kinds = question[0]
        if not kinds:
            self.assertEqual(line, f"{k}: yes")
            return
        self.assertTrue(line.startswith(f"{k}: "))
        text, _, more = line[len(f"{k}: "):].partition(" for ")
        left = self.left_holes(more)
        self.assertEqual(tuple(kind for _, kind in left), types[:len(left)])
        # Holes behind those are in the rows alone.
        self.assertEqual(len({node for term in values for node in self.holes(term)}), len(left))
        self.assertLessEqual(len(left), len(types))
        self.assertIn(len(types) > len(left), (False, terms_of_rows(rows) != []))
        for part, name, kind, term in zip(text.split(", "), self.hole_names(asked), kinds, values):
            ahead = f"{name} = "
            self.assertTrue(part.startswith(ahead))
            self.assertEqual(read_term(value[0], ((), left), (), kind, part[len(ahead):]), term)
        self.assertEqual(len(text.split(", ")), len(kinds))

    def left_holes(self, text):
        rows = [row.split(" : ") for row in text.split(", ")] if text else []
        return tuple((name, read_type(kind)) for name, kind in rows)

    def holes(self, term):
        found = [term[1]] if term[1][0] == "h" else []
        for part in term[2]:
            found += self.holes(part)
        return found

    def test_cases(self):
        for value, question in CASES:
            if value not in (WIDE, DOUBLE):
                with self.subTest(question=question):
                    self.check(value, question, 60, 9)

    def test_any(self):
        rng = random_numbers(126)
        seen = 0
        for _ in range(250):
            value, question = any_case(rng)
            try:
                seen += len(self.check(value, question, 30, 5)[0])
            except ValueError:
                continue
        self.assertGreater(seen, 60)

    def test_by_height(self):
        rng = random_numbers(127)
        seen = 0
        for _ in range(250):
            value, question = any_case(rng, False)
            desk = Desk()
            self.assertEqual(desk.take(write_program(value)), [])
            asked = write_question(value, question)[:-1]
            try:
                answers, end = by_height(value, question, 3)
            except ValueError:
                continue
            lines = desk.take(f"{asked} height 3;")
            self.assertEqual(lines[-1], end)
            self.assertEqual(len(lines), len(answers) + 1)
            for k, (answer, line) in enumerate(zip(answers, lines), start=1):
                self.compare(value, question, asked, answer, line, k)
            if end == "closed":
                told = search(value, question, 20000, 200)
                self.assertEqual((told[0], told[1]), (answers, end))
                seen += len(answers)
        self.assertGreater(seen, 60)

    def test_wrong_statements(self):
        junk = ("# 007 ( ) [ ] . , : ; -> & | a x c abcdefghi con rule ask if true some steps many height 3 > "
                "same").split()
        rng = random_numbers(128)
        wrong = 0
        for _ in range(250):
            value, question = any_case(rng)
            desk = Desk()
            desk.take(write_program(value))
            tokens = tokens_of(write_question(value, question)[:-1])[:40] + rng.choice(
                (["steps", "3", "many", "2", ";"], ["height", "2", ";"]))
            at = rng.randrange(len(tokens))
            tokens[at:at + rng.randrange(2)] = [rng.choice(junk)]
            text = " ".join(tokens)
            first = text[:text.index(";") + 1] if ";" in text else text
            expected = wrong_at("STATEMENT", tokens_by_words(first))
            before = desk.program()
            told = desk.take(first)
            self.assertEqual(desk.program()[1][:len(before[1])], before[1])
            if expected is not None:
                self.assertEqual(told, [f"error {expected}"])
                wrong += 1
        self.assertGreater(wrong, 120)

    def test_questions_are_those_of_texts(self):
        desk = self.desk()
        for text in ("ask [x : a] p x", "ask all x : a. given ([y : a] p y). p x",
                     "ask [x : a -> a] all y : a. p (x y)"):
            question = read_question(desk.program(), f"{text};")
            check_question(desk.program(), question)
            told = search(desk.program(), question, 50, 3)
            self.assertEqual(desk.take(f"{text} steps 50 many 3;")[-1], f"{told[1]} after {told[2]}")


if __name__ == "__main__":
    unittest.main()
