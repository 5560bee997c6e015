"""Those rules of ../shared/LANGUAGE.md that are plain to see in the files of the package."""

import ast
import builtins
import pathlib
import re
import unittest

PACKAGE = pathlib.Path(__file__).resolve().parent.parent / "allasked"
FILES = sorted(PACKAGE.glob("*.py"))

BUILTINS = set(
    "len range enumerate zip min max sum abs sorted reversed int str bool bytes list tuple dict set frozenset "
    "isinstance ord repr any all divmod iter next Exception ValueError TypeError KeyError IndexError LookupError "
    "ZeroDivisionError ArithmeticError OverflowError RuntimeError NotImplementedError AttributeError "
    "StopIteration NotImplemented".split()
)
METHODS = set(
    "append clear copy count endswith extend find get index insert isalnum isalpha isdigit islower isspace isupper "
    "items join keys ljust lower lstrip partition pop remove replace reverse rfind rjust rpartition rsplit rstrip "
    "setdefault split splitlines startswith strip update upper values zfill bit_length add discard".split()
)
WORDS = set(
    "type typing typing_extensions enum Enum IntEnum StrEnum Flag IntFlag Generic Protocol ABC ABCMeta namedtuple "
    "NamedTuple TypedDict TYPE_CHECKING abstractmethod".split()
)
STATEMENTS = (
    ast.Assign, ast.AugAssign, ast.If, ast.While, ast.For, ast.Return, ast.Break, ast.Continue, ast.Pass, ast.Raise,
    ast.Assert, ast.Delete, ast.Try, ast.Expr, ast.FunctionDef, ast.ClassDef, ast.ImportFrom,
)


def own_methods(trees):
    found = set()
    for tree in trees:
        for node in ast.walk(tree):
            if isinstance(node, ast.ClassDef):
                found.update(part.name for part in node.body if isinstance(part, ast.FunctionDef))
    return found


def defined_errors(tree):
    return {node.name for node in tree.body if isinstance(node, ast.ClassDef)}


class Language(unittest.TestCase):
    def setUp(self):
        self.trees = {path: ast.parse(path.read_text()) for path in FILES}

    def nodes(self, kind):
        for path, tree in self.trees.items():
            for node in ast.walk(tree):
                if isinstance(node, kind):
                    yield path, node

    def test_only_files_of_the_package(self):
        self.assertTrue(FILES)
        for path in PACKAGE.iterdir():
            if path.name != "__pycache__":
                self.assertRegex(path.name, r"^[a-z][a-z0-9_]*\.py$|^__(init|main)__\.py$")

    def test_sizes_and_signs(self):
        for path in FILES:
            text = path.read_text()
            self.assertRegex(text, r"^[ -~\n]*$", path)
            rows = text.split("\n")
            self.assertLess(len(rows), 400, path)
            self.assertLessEqual(max(len(row) for row in rows), 120, path)
            self.assertFalse(WORDS & set(re.findall(r"\w+", text)), path)
        for path, node in self.nodes(ast.FunctionDef):
            self.assertLessEqual(node.end_lineno - node.lineno + 1, 40, (path, node.name))

    def test_statements(self):
        for path, node in self.nodes(ast.stmt):
            self.assertIsInstance(node, STATEMENTS, (path, node.lineno))

    def test_imports_name_the_defining_file(self):
        for path, node in self.nodes((ast.Import, ast.ImportFrom)):
            self.assertIsInstance(node, ast.ImportFrom, path)
            self.assertEqual(node.level, 0)
            package, _, module = node.module.partition(".")
            self.assertEqual(package, "allasked", path)
            body = self.trees[PACKAGE / (module + ".py")].body
            found = {part.name for part in body if isinstance(part, (ast.FunctionDef, ast.ClassDef))}
            for part in body:
                if isinstance(part, ast.Assign):
                    found.update(target.id for target in part.targets)
            for alias in node.names:
                self.assertIn(alias.name, found, path)
                self.assertIsNone(alias.asname)

    def test_imports_go_one_way(self):
        goes = {path.stem: set() for path in FILES}
        for path, node in self.nodes(ast.ImportFrom):
            goes[path.stem].add(node.module.partition(".")[2])
        while goes:
            free = [name for name, others in goes.items() if not others & set(goes)]
            self.assertTrue(free, goes)
            for name in free:
                del goes[name]

    def test_names(self):
        for path, node in self.nodes(ast.Name):
            self.assertRegex(node.id, r"^[A-Za-z][A-Za-z0-9_]*$", path)
            if hasattr(builtins, node.id):
                self.assertIn(node.id, BUILTINS, (path, node.lineno))
                self.assertIsInstance(node.ctx, ast.Load, (path, node.lineno))
        for path, node in self.nodes(ast.arg):
            self.assertRegex(node.arg, r"^[A-Za-z][A-Za-z0-9_]*$", path)
            self.assertFalse(hasattr(builtins, node.arg), (path, node.arg))
        for path, node in self.nodes((ast.FunctionDef, ast.ClassDef)):
            if node.name != "__init__":
                self.assertRegex(node.name, r"^[A-Za-z][A-Za-z0-9_]*$", path)
                self.assertFalse(hasattr(builtins, node.name), (path, node.name))

    def test_no_name_is_a_method_and_an_attribute(self):
        stored = set()
        for path, node in self.nodes(ast.Attribute):
            if not isinstance(node.ctx, ast.Load):
                stored.add(node.attr)
        self.assertFalse(stored & own_methods(self.trees.values()))
        self.assertFalse(stored & METHODS)
        for path, node in self.nodes(ast.Attribute):
            if node.attr not in METHODS | own_methods(self.trees.values()):
                self.assertIn(node.attr, stored, (path, node.lineno))

    def test_errors_are_raised_by_their_names(self):
        found = defined_errors(self.trees[PACKAGE / "errors.py"])
        for path, node in self.nodes(ast.Raise):
            self.assertIsInstance(node.exc, ast.Call, (path, node.lineno))
            self.assertIn(node.exc.func.id, found, (path, node.lineno))

    def test_each_name_once_in_a_file(self):
        for path, tree in self.trees.items():
            found = [node.name for node in tree.body if isinstance(node, (ast.FunctionDef, ast.ClassDef))]
            for node in tree.body:
                if isinstance(node, ast.ImportFrom):
                    found += [alias.name for alias in node.names]
                if isinstance(node, ast.Assign):
                    found += [target.id for target in node.targets]
            self.assertEqual(len(found), len(set(found)), path)

    def test_no_name_of_an_import_or_class_again(self):
        for path, tree in self.trees.items():
            taken = set()
            for node in tree.body:
                if isinstance(node, ast.ImportFrom):
                    taken.update(alias.name for alias in node.names)
                if isinstance(node, ast.ClassDef):
                    taken.add(node.name)
            for node in ast.walk(tree):
                if isinstance(node, ast.arg):
                    self.assertNotIn(node.arg, taken, path)
                if isinstance(node, ast.Name) and not isinstance(node.ctx, ast.Load):
                    self.assertNotIn(node.id, taken, (path, node.lineno))

    def test_methods_called(self):
        allowed = METHODS | own_methods(self.trees.values())
        for path, node in self.nodes(ast.Call):
            if isinstance(node.func, ast.Attribute):
                self.assertIn(node.func.attr, allowed, (path, node.lineno))

    def test_is_only_with_none_and_truths(self):
        for path, node in self.nodes(ast.Compare):
            for sign, right in zip(node.ops, node.comparators):
                if isinstance(sign, (ast.Is, ast.IsNot)):
                    self.assertIsInstance(right, ast.Constant, (path, node.lineno))
                    self.assertIn(right.value, (None, True, False), (path, node.lineno))

    def test_no_floats_powers_or_percent_signs(self):
        for path, node in self.nodes(ast.BinOp):
            self.assertNotIsInstance(node.op, (ast.Div, ast.Pow, ast.MatMult), (path, node.lineno))
        for path, node in self.nodes(ast.Constant):
            self.assertNotIsInstance(node.value, (float, complex), (path, node.lineno))
            if isinstance(node.value, str):
                self.assertNotIn("%", node.value, (path, node.lineno))


if __name__ == "__main__":
    unittest.main()
