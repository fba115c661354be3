"""Some of the rules of the language that the package is written in, as far as they are easily seen."""

import ast
import builtins
import re
import unittest
from pathlib import Path

PACKAGE = Path(__file__).resolve().parent.parent / "lacuna"
FILES = sorted(path for path in PACKAGE.rglob("*") if "__pycache__" not in path.parts)
BUILTINS = (
    "len range enumerate zip min max sum abs sorted reversed int str bool list tuple dict set isinstance ord repr any "
    "all divmod type super ValueError"
).split()
METHODS = (
    "append clear copy count endswith extend find get index insert isalnum isalpha isdigit islower isspace isupper "
    "items join keys ljust lower lstrip partition pop remove replace reverse rfind rjust rpartition rsplit rstrip "
    "setdefault split splitlines startswith strip update upper values zfill bit_length"
).split()
NO_ATTRIBUTES = (
    "items keys values pop update append clear extend insert remove reverse setdefault sort args encode decode hex "
    "fromhex format format_map mro"
).split()
NO_NAMES = (
    "mro elements open input law version_info with_traceback add_note register attrgetter breakpoint builtins compile "
    "copyright credits delattr dir eval exec exit gc getattr globals hasattr help id importlib license locals "
    "methodcaller os quit setattr sys vars map filter next iter hash"
).split()
NO_WORDS = (
    "typing typing_extensions enum Enum IntEnum StrEnum Flag IntFlag Generic Protocol ABC ABCMeta namedtuple "
    "NamedTuple TypedDict TYPE_CHECKING abstractmethod dataclass overload contextmanager"
).split()
AT_ONCE = ("list", "tuple", "dict", "sorted", "sum", "any", "all", "enumerate", "zip", "min", "max")


def parents(tree):
    return {inner: node for node in ast.walk(tree) for inner in ast.iter_child_nodes(node)}


def names_bound(function):
    """The parameters and the local variables of a function, nested ones included."""
    found = {node.arg for node in ast.walk(function) if isinstance(node, ast.arg)}
    return found | {node.id for node in ast.walk(function) if isinstance(node, ast.Name) and
                    isinstance(node.ctx, ast.Store)}


class Language(unittest.TestCase):
    def trees(self):
        for path in FILES:
            yield path, ast.parse(path.read_text("ascii"))

    def nodes(self, *kinds):
        """The nodes of these kinds, each with where it stands."""
        for path, tree in self.trees():
            for node in ast.walk(tree):
                if isinstance(node, kinds):
                    yield f"{path.name}:{getattr(node, 'lineno', 0)}", node

    def test_files(self):
        self.assertIn(PACKAGE / "__init__.py", FILES)
        for path in FILES:
            with self.subTest(path=path.name):
                self.assertEqual(path.suffix, ".py")
                self.assertRegex(path.stem, "^[a-z_]+$")
                text = path.read_text("ascii")
                self.assertNotIn("\t", text)
                lines = text.split("\n")
                self.assertLessEqual(len(lines), 400)
                self.assertLessEqual(max(len(line) for line in lines), 120)

    def test_imports(self):
        for place, node in self.nodes(ast.Import, ast.ImportFrom):
            self.assertIsInstance(node, ast.ImportFrom, place)
            self.assertEqual(node.level, 0, place)
            self.assertTrue(node.module.startswith("lacuna."), place)
            source = ast.parse((PACKAGE / (node.module[7:] + ".py")).read_text("ascii"))
            there = {row.name for row in source.body if isinstance(row, (ast.FunctionDef, ast.ClassDef))}
            there |= {row.targets[0].id for row in source.body if isinstance(row, ast.Assign)}
            for name in node.names:
                self.assertIsNone(name.asname, place)
                self.assertIn(name.name, there, place)

    def test_no_circles(self):
        ahead = {}
        for path, tree in self.trees():
            ahead[path.stem] = {node.module[7:] for node in tree.body if isinstance(node, ast.ImportFrom)}
        while ahead:
            free = [name for name in ahead if not ahead[name]]
            self.assertTrue(free, ahead)
            ahead = {name: ahead[name] - set(free) for name in ahead if name not in free}

    def test_imports_are_used(self):
        for path, tree in self.trees():
            used = {node.id for node in ast.walk(tree) if isinstance(node, ast.Name)}
            for node in tree.body:
                if isinstance(node, ast.ImportFrom):
                    with self.subTest(path=path.name):
                        self.assertLessEqual({name.name for name in node.names}, used)

    def test_module_level(self):
        for path, tree in self.trees():
            names = [node.targets[0].id for node in tree.body if isinstance(node, ast.Assign)]
            names += [node.name for node in tree.body if isinstance(node, (ast.FunctionDef, ast.ClassDef))]
            names += [name.name for node in tree.body if isinstance(node, ast.ImportFrom) for name in node.names]
            self.assertEqual(len(set(names)), len(names), path)
            for at, node in enumerate(tree.body):
                with self.subTest(path=path.name, line=node.lineno):
                    self.assertIsInstance(node, (ast.ImportFrom, ast.FunctionDef, ast.ClassDef, ast.Assign) if at else
                                          ast.Expr)

    def test_functions(self):
        for place, node in self.nodes(ast.FunctionDef, ast.Lambda):
            self.assertEqual(node.args.posonlyargs + node.args.kwonlyargs, [], place)
            if isinstance(node, ast.FunctionDef):
                self.assertLessEqual(node.end_lineno - node.lineno + 1, 40, place)
                self.assertEqual(node.decorator_list, [], place)
                if node.name.startswith("__"):
                    self.assertEqual(node.name, "__init__", place)
                elif node.name != "change":
                    self.assertIsNotNone(ast.get_docstring(node), place)

    def test_names(self):
        for path, tree in self.trees():
            outer = {node.name for node in tree.body if isinstance(node, ast.ClassDef)}
            outer |= {name.name for node in tree.body if isinstance(node, ast.ImportFrom) for name in node.names}
            for node in ast.walk(tree):
                if isinstance(node, ast.FunctionDef):
                    with self.subTest(path=path.name, name=node.name):
                        bound = names_bound(node)
                        self.assertEqual(bound & outer, set())
                        self.assertEqual({name for name in bound if hasattr(builtins, name)}, set())
                        self.assertEqual(bound & set(NO_NAMES), set())
                        self.assertNotIn(node.name, NO_NAMES)
                        self.assertFalse([name for name in bound if name.startswith("_") and name != "_"])
                if isinstance(node, (ast.FunctionDef, ast.ClassDef)) and node.name != "__init__":
                    # A method may have the name of a builtin that is not in the list; this program has none.
                    self.assertFalse(hasattr(builtins, node.name), node.name)

    def test_nothing_is_read_from_underscore(self):
        for place, node in self.nodes(ast.Name):
            if node.id == "_":
                self.assertIsInstance(node.ctx, ast.Store, place)

    def classes(self):
        return [node for _, tree in self.trees() for node in ast.walk(tree) if isinstance(node, ast.ClassDef)]

    def methods(self):
        """The methods that the classes of the package have."""
        return {inner.name for node in self.classes() for inner in node.body if isinstance(inner, ast.FunctionDef)}

    def test_attributes(self):
        assigned = set()
        for node in self.classes():
            own = {inner.attr for inner in ast.walk(node) if isinstance(inner, ast.Attribute)
                   and isinstance(inner.ctx, ast.Store) and isinstance(inner.value, ast.Name)
                   and inner.value.id == "self"}
            assigned |= own
            methods = [inner.name for inner in node.body if isinstance(inner, ast.FunctionDef)]
            with self.subTest(name=node.name):
                self.assertEqual(len(set(methods)), len(methods))
                self.assertEqual(own & set(methods), set())
                self.assertEqual((own | set(methods)) & set(NO_ATTRIBUTES), set())
                # Simpler than what the rules allow, too.
                for value in ("", 0, b"", [], {}, (), set()):
                    self.assertEqual((own | set(methods)) & set(dir(value)), {"__init__"} & set(methods))
        # No name is an attribute in one class and a method in another one: simpler than what the rules allow.
        self.assertEqual(assigned & self.methods(), set())
        known = assigned | self.methods() | set(METHODS) | {"__init__"}
        for place, node in self.nodes(ast.Attribute):
            self.assertIn(node.attr, known, place)

    def test_what_is_called(self):
        methods = set(METHODS) | self.methods()
        for path, tree in self.trees():
            own = {node.name for node in ast.walk(tree) if isinstance(node, (ast.FunctionDef, ast.ClassDef))}
            own |= {name.name for node in ast.walk(tree) if isinstance(node, ast.ImportFrom) for name in node.names}
            own |= {node.arg for node in ast.walk(tree) if isinstance(node, ast.arg)}
            for node in ast.walk(tree):
                if not isinstance(node, ast.Call):
                    continue
                with self.subTest(path=path.name, line=node.lineno):
                    if isinstance(node.func, ast.Name):
                        self.assertIn(node.func.id, own | set(BUILTINS))
                    elif node.func.attr != "__init__":
                        self.assertIn(node.func.attr, methods)

    def test_what_is_iterated_at_once(self):
        for path, tree in self.trees():
            above = parents(tree)
            for node in ast.walk(tree):
                if not isinstance(node, ast.Call):
                    continue
                name = node.func.id if isinstance(node.func, ast.Name) else node.func.attr
                around = above[node]
                with self.subTest(path=path.name, line=node.lineno, name=name):
                    if name in ("zip", "enumerate", "reversed", "range", "items", "keys", "values"):
                        if isinstance(around, (ast.For, ast.comprehension)):
                            self.assertEqual(around.iter, node)
                        else:
                            self.assertIn(around.func.id, AT_ONCE + ("reversed",) * (name == "range"))
                    if name == "set":
                        self.assertIn(around.func.id, ("len", "sorted"))
                    if name == "sorted":
                        self.assertLessEqual({row.arg for row in node.keywords}, {"key", "reverse"})

    def test_values(self):
        for place, node in self.nodes(ast.AST):
            self.assertNotIsInstance(node, (
                ast.Div, ast.Global, ast.Nonlocal, ast.AsyncFunctionDef, ast.Await, ast.GeneratorExp, ast.Yield,
                ast.Starred, ast.NamedExpr, ast.With, ast.AnnAssign, ast.SetComp, ast.Set, ast.Pow, ast.Mod, ast.Match,
            ), place)
            if isinstance(node, ast.Constant):
                self.assertNotIsInstance(node.value, (float, complex, bytes), place)
                if isinstance(node.value, str):
                    self.assertNotIn("%", node.value, place)
                    self.assertFalse(node.value.endswith(("._", ".__")), place)

    def test_identity(self):
        for place, node in self.nodes(ast.Compare):
            if isinstance(node.ops[0], (ast.Is, ast.IsNot)):
                left, right = node.left, node.comparators[0]
                if isinstance(left, ast.Call) and left.func.id == "type":
                    self.assertIsInstance(right, ast.Name, place)
                else:
                    self.assertIn(right.value, (None, True, False), place)

    def test_types_are_asked_for_alone(self):
        for path, tree in self.trees():
            above = parents(tree)
            for node in ast.walk(tree):
                if isinstance(node, ast.Call) and isinstance(node.func, ast.Name) and node.func.id == "type":
                    self.assertIsInstance(above[node], ast.Compare)

    def test_errors(self):
        own = {node.name for node in self.classes()}
        for place, node in self.nodes(ast.Raise):
            self.assertTrue(node.exc is None or node.exc.func.id in own, place)
        for place, node in self.nodes(ast.ExceptHandler):
            self.assertIn(node.type.id, own, place)

    def test_words(self):
        for path in FILES:
            text = path.read_text("ascii")
            text = re.sub(r'"""[\s\S]*?"""|#.*|"[^"\n]*"', "", text)
            with self.subTest(path=path.name):
                self.assertEqual(set(re.findall(r"\w+", text)) & set(NO_WORDS), set())
                self.assertEqual(re.findall(r"\btype\b(?!\()", text), [])


if __name__ == "__main__":
    unittest.main()
