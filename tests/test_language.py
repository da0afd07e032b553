"""A part of the rules of LANGUAGE.md that a test can see. It is narrower than the rules in places."""

import ast
import builtins
import pathlib
import unittest

PACKAGE = pathlib.Path(__file__).resolve().parent.parent / "noisebound"
FILES = sorted(path for path in PACKAGE.iterdir() if path.name != "__pycache__")

USED_BUILTINS = {
    "len", "range", "enumerate", "zip", "min", "max", "sum", "abs", "sorted", "reversed", "int", "str", "bool",
    "list", "tuple", "dict", "set", "isinstance", "ord", "repr", "any", "all", "divmod", "ValueError", "property",
    "super", "iter", "NotImplemented",
}
USED_METHODS = {
    "append", "bit_length", "copy", "count", "endswith", "extend", "find", "get", "index", "insert", "isdigit", "items",
    "join", "keys", "pop", "remove", "replace", "reverse", "split", "startswith", "strip", "values",
}
NO_WORDS = (
    "eval", "exec", "compile", "globals", "locals", "vars", "dir", "type", "typing", "enum", "namedtuple",
    "dataclass", "abstractmethod", "overload", "contextmanager", "register", "open", "input", "law", "elements",
)
NO_NODES = (
    ast.Global, ast.AsyncFunctionDef, ast.AsyncFor, ast.AsyncWith, ast.Await, ast.Yield, ast.YieldFrom, ast.Import,
    ast.GeneratorExp, ast.Div, ast.MatMult, ast.Delete, ast.TryStar, ast.With, ast.Lambda, ast.Nonlocal, ast.Match,
    ast.AugAssign, ast.Set, ast.SetComp, ast.AnnAssign, ast.NamedExpr,
)
MODULE_NODES = (ast.FunctionDef, ast.ClassDef, ast.ImportFrom, ast.Assign, ast.Expr)


def bound_names(tree):
    """The names that a file gives to parameters, variables, functions and classes."""
    for node in ast.walk(tree):
        if isinstance(node, ast.arg):
            yield node.arg
        elif isinstance(node, ast.Name) and isinstance(node.ctx, ast.Store):
            yield node.id
        elif isinstance(node, (ast.FunctionDef, ast.ClassDef)) and not node.name.startswith("__"):
            yield node.name


class LanguageTest(unittest.TestCase):

    def setUp(self):
        self.texts = {path.name: path.read_text(encoding="ascii") for path in FILES}
        self.trees = {name: ast.parse(text) for name, text in self.texts.items()}

    def test_files(self):
        for path in FILES:
            self.assertRegex(path.name, r"^[a-z_]+\.py$")

    def test_sizes_and_characters(self):
        for name, text in self.texts.items():
            lines = text.split("\n")
            self.assertLessEqual(len(lines), 399, name)
            self.assertLessEqual(max(len(line) for line in lines), 120, name)
            self.assertTrue(all(" " <= character <= "~" for line in lines for character in line), name)
        for name, tree in self.trees.items():
            for node in ast.walk(tree):
                if isinstance(node, ast.FunctionDef):
                    self.assertLessEqual(node.end_lineno - node.lineno + 1, 40, (name, node.name))

    def test_statements_and_expressions(self):
        for name, tree in self.trees.items():
            for node in tree.body:
                self.assertIsInstance(node, MODULE_NODES, name)
            for node in ast.walk(tree):
                self.assertNotIsInstance(node, NO_NODES, (name, getattr(node, "lineno", 0)))
                if isinstance(node, ast.Constant):
                    self.assertNotIsInstance(node.value, (float, complex, bytes), name)
                    self.assertFalse(isinstance(node.value, str) and "%" in node.value, name)

    def test_imports(self):
        for name, tree in self.trees.items():
            for node in ast.walk(tree):
                if isinstance(node, ast.ImportFrom):
                    self.assertEqual((node.module.split(".")[0], node.level), ("noisebound", 0), name)
                    self.assertIn(node.module.split(".")[1] + ".py", self.texts)
                    self.assertTrue(all(alias.asname is None for alias in node.names))
                    self.check_imported(node)

    def check_imported(self, node):
        tree = self.trees[node.module.split(".")[1] + ".py"]
        defined = [part.name for part in tree.body if isinstance(part, (ast.FunctionDef, ast.ClassDef))]
        defined += [part.targets[0].id for part in tree.body if isinstance(part, ast.Assign)]
        for alias in node.names:
            self.assertIn(alias.name, defined)

    def test_names(self):
        # Showing a value, as the examples of the README do, makes _ a builtin.
        known = {word for word in dir(builtins) if word != "_"}
        for name, tree in self.trees.items():
            outside = [alias.name for node in tree.body if isinstance(node, ast.ImportFrom) for alias in node.names]
            classes = [node.name for node in tree.body if isinstance(node, ast.ClassDef)]
            bound = list(bound_names(tree))
            for word in bound:
                self.assertNotIn(word, known, name)
                self.assertNotIn(word, NO_WORDS)
                self.assertNotIn(word, outside)
            for word in classes:
                self.assertEqual(bound.count(word), 1)
            for node in ast.walk(tree):
                if isinstance(node, ast.Name) and node.id in known:
                    self.assertIn(node.id, USED_BUILTINS, name)

    def test_properties(self):
        found, settable, stored, methods = set(), set(), set(), set()
        for node in [node for tree in self.trees.values() for node in ast.walk(tree)]:
            if isinstance(node, ast.ClassDef):
                for part in [part for part in node.body if isinstance(part, ast.FunctionDef)]:
                    signs = [ast.unparse(sign) for sign in part.decorator_list]
                    names = found if signs == ["property"] else settable if signs else methods
                    names.add(part.name)
            elif isinstance(node, ast.Attribute) and isinstance(node.ctx, ast.Store):
                stored.add(node.attr)
        self.assertEqual(found & stored - settable, set())
        self.assertEqual(found & methods, set())
        self.assertTrue(settable <= found)

    def test_words_in_texts(self):
        for name, tree in self.trees.items():
            for node in ast.walk(tree):
                if isinstance(node, ast.Constant) and isinstance(node.value, str):
                    for word in ("namedtuple", "dataclass", "typing", "abstractmethod", "Enum", "Meta", "(type)", "__"):
                        self.assertNotIn(word, node.value, name)

    def test_caught_errors(self):
        defined = [node.name for node in self.trees["errors.py"].body if isinstance(node, ast.ClassDef)]
        for name, tree in self.trees.items():
            for node in ast.walk(tree):
                if isinstance(node, ast.Try):
                    self.assertEqual(node.finalbody, [], name)
                    for handler in node.handlers:
                        caught = handler.type.elts if isinstance(handler.type, ast.Tuple) else [handler.type]
                        self.assertTrue(all(error.id in defined for error in caught), name)

    def test_methods(self):
        own = {node.name for tree in self.trees.values() for node in ast.walk(tree)
               if isinstance(node, ast.FunctionDef)}
        for name, tree in self.trees.items():
            for node in ast.walk(tree):
                if isinstance(node, ast.Call) and isinstance(node.func, ast.Attribute):
                    self.assertIn(node.func.attr, own | USED_METHODS, name)

    def test_unused_imports(self):
        for name, tree in self.trees.items():
            loaded = {node.id for node in ast.walk(tree) if isinstance(node, ast.Name)}
            for node in tree.body:
                if isinstance(node, ast.ImportFrom):
                    self.assertEqual([alias.name for alias in node.names if alias.name not in loaded], [], name)


if __name__ == "__main__":
    unittest.main()
