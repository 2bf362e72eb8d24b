"""Those rules of LANGUAGE.md that can be read off the package's files without doubt."""

import ast
import builtins
import pathlib
import re
import unittest

PACKAGE = pathlib.Path(__file__).resolve().parent.parent / "scopestore"
FILES = sorted(PACKAGE.glob("*.py"))

BUILTINS = set(
    "len range enumerate zip min max sum abs sorted reversed int str bool bytes list tuple dict set frozenset"
    " isinstance ord repr any all divmod iter next super property staticmethod classmethod Exception ValueError"
    " TypeError KeyError IndexError LookupError ZeroDivisionError ArithmeticError OverflowError RuntimeError"
    " NotImplementedError AttributeError StopIteration NotImplemented".split()
)
METHODS = set(
    "append clear copy count endswith extend find get index insert isalnum isalpha isdigit islower isspace isupper"
    " items join keys ljust lower lstrip partition pop remove replace reverse rfind rjust rpartition rsplit rstrip"
    " setdefault split splitlines startswith strip update upper values zfill bit_length title capitalize swapcase"
    " casefold center expandtabs removeprefix removesuffix rindex isascii isdecimal isnumeric istitle isidentifier"
    " isprintable translate sort add discard encode decode hex".split()
)
BARRED_WORDS = re.compile(
    r"\b(type|typing|typing_extensions|enum|Enum|IntEnum|StrEnum|Flag|IntFlag|Generic|Protocol|ABC|ABCMeta|namedtuple"
    r"|NamedTuple|TypedDict|TYPE_CHECKING|abstractmethod)\b|dataclass|overload|contextmanager"
)
BARRED_NODES = (
    ast.Global, ast.AsyncFunctionDef, ast.AsyncFor, ast.AsyncWith, ast.Await, ast.Import, ast.Div, ast.MatMult,
)
FUNCTION_NODES = (ast.FunctionDef, ast.ClassDef)


def bound_names(tree):
    """Tell each name that a file binds, with the line."""
    for node in ast.walk(tree):
        if isinstance(node, FUNCTION_NODES):
            yield node.name, node.lineno
        if isinstance(node, ast.arg):
            yield node.arg, node.lineno
        if isinstance(node, ast.Name) and isinstance(node.ctx, ast.Store):
            yield node.id, node.lineno
        if isinstance(node, ast.ImportFrom):
            for alias in node.names:
                yield alias.asname or alias.name, node.lineno


def imported_names(tree):
    """Tell the names that a file imports."""
    imports = [node for node in tree.body if isinstance(node, ast.ImportFrom)]
    return {alias.asname or alias.name for node in imports for alias in node.names}


TEXTS = {path.name: path.read_text(encoding="utf-8") for path in FILES}
TREES = {name: ast.parse(TEXTS[name], name) for name in TEXTS}
OWN_METHODS = {
    node.name for tree in TREES.values() for node in ast.walk(tree) if isinstance(node, ast.FunctionDef)
}


class Language(unittest.TestCase):
    def in_each_file(self, look):
        for name in TEXTS:
            with self.subTest(file=name):
                look(TEXTS[name], TREES[name])

    def test_the_package_is_one_folder_of_plain_files(self):
        self.assertIn(PACKAGE / "__init__.py", FILES)
        for path in PACKAGE.iterdir():
            if path.name != "__pycache__":
                self.assertRegex(path.name, r"\A([a-z][a-z0-9_]*|__init__|__main__)\.py\Z")
                self.assertNotIn(path.stem, dir(builtins))

    def test_sizes_and_signs(self):
        self.in_each_file(self.look_at_sizes_and_signs)

    def look_at_sizes_and_signs(self, text, tree):
        self.assertRegex(text, r"\A[ -~\n]*\Z")
        lines = text.split("\n")
        self.assertLessEqual(len(lines), 399)
        self.assertLessEqual(max(len(line) for line in lines), 120)
        for node in ast.walk(tree):
            if isinstance(node, ast.FunctionDef):
                self.assertLessEqual(node.end_lineno - node.lineno + 1, 40, node.name)

    def test_barred_words_and_statements(self):
        self.in_each_file(self.look_at_words_and_statements)

    def look_at_words_and_statements(self, text, tree):
        self.assertIsNone(BARRED_WORDS.search(text))
        for node in ast.walk(tree):
            self.assertNotIsInstance(node, BARRED_NODES)
            if isinstance(node, ast.Constant):
                self.assertNotIsInstance(node.value, (float, complex))
                self.assertNotIn("%", str(node.value))

    def test_module_level(self):
        self.in_each_file(self.look_at_module_level)

    def look_at_module_level(self, text, tree):
        for at, node in enumerate(tree.body):
            self.assertIsInstance(node, FUNCTION_NODES + (ast.ImportFrom, ast.Assign, ast.Expr))
            if isinstance(node, ast.Expr):
                self.assertEqual((at, type(node.value)), (0, ast.Constant))
            if isinstance(node, ast.Assign):
                self.assertEqual([type(target) for target in node.targets], [ast.Name])

    def test_imports_name_the_file_that_defines(self):
        self.in_each_file(self.look_at_imports)

    def look_at_imports(self, text, tree):
        for node in ast.walk(tree):
            if isinstance(node, ast.ImportFrom):
                self.assertIn(node, tree.body)
                self.assertEqual(node.level, 0)
                package, name = node.module.split(".")
                self.assertEqual(package, "scopestore")
                source = TREES[f"{name}.py"]
                defined = {bound for bound, line in bound_names(source)} - imported_names(source)
                self.assertLessEqual({alias.name for alias in node.names}, defined)

    def test_names_are_plain_and_mean_one_thing(self):
        self.in_each_file(self.look_at_names)

    def look_at_names(self, text, tree):
        taken = imported_names(tree) | {node.name for node in tree.body if isinstance(node, ast.ClassDef)}
        for node in ast.walk(tree):
            if isinstance(node, ast.arg):
                self.assertNotIn(node.arg, taken, node.lineno)
            if isinstance(node, ast.Name) and isinstance(node.ctx, ast.Store):
                self.assertNotIn(node.id, taken, node.lineno)
        for name, line in bound_names(tree):
            self.assertRegex(name, r"\A([A-Za-z][A-Za-z0-9_]*|__[a-z]+__)\Z", line)
            self.assertNotIn(name, dir(builtins), line)

    def test_builtins_and_methods(self):
        self.in_each_file(self.look_at_builtins_and_methods)

    def look_at_builtins_and_methods(self, text, tree):
        bound = {name for name, line in bound_names(tree)}
        for node in ast.walk(tree):
            if isinstance(node, ast.Name) and node.id not in bound:
                self.assertIn(node.id, BUILTINS, node.lineno)
            if isinstance(node, ast.Call) and isinstance(node.func, ast.Attribute):
                self.assertIn(node.func.attr, METHODS | OWN_METHODS, node.lineno)

    def test_no_name_is_a_method_and_an_attribute(self):
        classes = [node for tree in TREES.values() for node in tree.body if isinstance(node, ast.ClassDef)]
        methods = {node.name for kind in classes for node in kind.body if isinstance(node, ast.FunctionDef)}
        nodes = [node for tree in TREES.values() for node in ast.walk(tree) if isinstance(node, ast.Attribute)]
        assigned = {node.attr for node in nodes if isinstance(node.ctx, ast.Store)}
        self.assertFalse(methods & assigned)
        called = {node.attr for node in nodes} - assigned
        self.assertLessEqual(called, METHODS | methods)

    def test_is_stands_with_none_true_and_false_alone(self):
        self.in_each_file(self.look_at_is)

    def look_at_is(self, text, tree):
        for node in ast.walk(tree):
            if isinstance(node, ast.Compare):
                for sign, other in zip(node.ops, node.comparators):
                    if isinstance(sign, (ast.Is, ast.IsNot)):
                        self.assertIn(getattr(other, "value", 0), (None, True, False), node.lineno)

    def test_comprehensions_stand_in_functions(self):
        self.in_each_file(self.look_at_module_level_values)

    def look_at_module_level_values(self, text, tree):
        for node in tree.body:
            if isinstance(node, ast.Assign):
                for part in ast.walk(node.value):
                    self.assertNotIsInstance(part, (ast.ListComp, ast.DictComp, ast.SetComp, ast.GeneratorExp))
                    self.assertNotIsInstance(part, (ast.Call, ast.Lambda))


if __name__ == "__main__":
    unittest.main()
