"""The interface, point 4, and what points 2 and 4 say of all functions."""

import inspect
import unittest

from lacuna import errors, filling, terms

TERMS = {
    "is_type": ["value"],
    "is_signature": ["value"],
    "is_term": ["signature", "holes", "prefix", "kind", "value"],
    "long_binder": ["i", "kind"],
    "long_hole": ["k", "kind"],
    "lifted": ["term", "k"],
    "size": ["term"],
    "is_pattern": ["signature", "holes", "prefix", "kind", "term"],
}
FILLING = {
    "opened": ["term", "terms"],
    "fill": ["values", "term"],
    "compose": ["first", "second"],
    "unchanged": ["holes"],
    "is_filling": ["signature", "old", "new", "value"],
    "tidied": ["signature", "old", "new", "values"],
    "more_of": ["signature", "old", "new", "values", "others"],
}
PLAIN_ERRORS = ("LimitError", "BadForm", "BadName", "BadType", "HasMatch", "NotPattern")


class Interface(unittest.TestCase):
    def check(self, module, listed):
        for name, arguments in listed.items():
            with self.subTest(name=name):
                function = getattr(module, name)
                self.assertTrue(inspect.isfunction(function))
                self.assertEqual(list(inspect.signature(function).parameters), arguments)
                self.assertEqual(function.__module__, module.__name__)

    def test_terms(self):
        self.check(terms, TERMS)
        self.assertEqual((terms.MOST, terms.MOST_DEEP), (2000, 100))

    def test_filling(self):
        self.check(filling, FILLING)


class Errors(unittest.TestCase):
    def test_root(self):
        self.assertEqual(errors.LacunaError.__bases__, (ValueError,))

    def test_plain_errors(self):
        for name in PLAIN_ERRORS:
            with self.subTest(name=name):
                error = getattr(errors, name)
                self.assertEqual(error.__module__, "lacuna.errors")
                self.assertEqual(error.__bases__, (errors.LacunaError,))
                with self.assertRaises(ValueError):
                    raise error("why")
                with self.assertRaises(errors.LacunaError):
                    raise error()

    def test_fields(self):
        for error, field in ((errors.BadRule, "number"), (errors.TextError, "at")):
            for worth in (-1, 0, 7):
                with self.subTest(field=field, worth=worth):
                    self.assertEqual(error.__bases__, (errors.LacunaError,))
                    with self.assertRaises(ValueError) as caught:
                        raise error(worth)
                    self.assertEqual(getattr(caught.exception, field), worth)

    def test_no_error_is_another(self):
        names = PLAIN_ERRORS + ("BadRule", "TextError")
        self.assertEqual(len({getattr(errors, name) for name in names}), 8)


if __name__ == "__main__":
    unittest.main()
