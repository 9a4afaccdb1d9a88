"""Those rules of the language that a look at the package's files can tell."""

import ast
import builtins
import io
import pathlib
import re
import tokenize
import unittest
import warnings

PACKAGE = pathlib.Path(__file__).resolve().parent.parent / "stayfast"
FILES = sorted(PACKAGE.rglob("*.py"))
ALLOWED_BUILTINS = set(
    "len range enumerate zip min max sum abs sorted reversed int str bool bytes list tuple dict set frozenset"
    " isinstance ord repr any all divmod super property staticmethod classmethod object NotImplemented"
    " Exception ValueError TypeError KeyError IndexError LookupError ZeroDivisionError ArithmeticError"
    " OverflowError RuntimeError NotImplementedError AttributeError StopIteration".split()
)
BARRED_WORDS = set(
    "type typing typing_extensions enum Enum IntEnum StrEnum Flag IntFlag Generic Protocol ABC ABCMeta"
    " namedtuple NamedTuple TypedDict TYPE_CHECKING abstractmethod".split()
)
BARRED_PARTS = ("dataclass", "overload", "contextmanager")
BARRED_NAMES = set(
    "register mro elements open input version_info with_traceback add_note attrgetter breakpoint builtins"
    " compile copyright credits delattr dir eval exec exit gc getattr globals hasattr help id importlib"
    " license locals methodcaller os quit setattr type vars sys".split()
)
BARRED_NODES = (
    ast.Global, ast.AsyncFunctionDef, ast.AsyncFor, ast.AsyncWith, ast.Await, ast.Div, ast.MatMult, ast.Import,
)
FUNCTIONS = (ast.FunctionDef, ast.Lambda)


def trees():
    """Each file with what Python makes of it."""
    return [(path, ast.parse(path.read_text("ascii"))) for path in FILES]


def bound_at_the_top(tree):
    """The names that a file's module level binds, each as often as it does: imports, functions, classes, values."""
    names = []
    for node in tree.body:
        if isinstance(node, ast.ImportFrom):
            names += [alias.asname or alias.name for alias in node.names]
        elif isinstance(node, (ast.FunctionDef, ast.ClassDef)):
            names.append(node.name)
        elif isinstance(node, ast.Assign):
            names += [target.id for target in node.targets]
    return names


def bound_names(tree):
    """The names of variables, functions, classes and parameters of a file."""
    names = []
    for node in ast.walk(tree):
        if isinstance(node, ast.Name) and isinstance(node.ctx, ast.Store):
            names.append(node.id)
        elif isinstance(node, (ast.FunctionDef, ast.ClassDef)):
            names.append(node.name)
        elif isinstance(node, ast.arg):
            names.append(node.arg)
    return names


class Files(unittest.TestCase):
    def test_there_is_something_to_look_at(self):
        self.assertIn(PACKAGE / "__init__.py", FILES)

    def test_only_files_of_plain_names(self):
        for path in PACKAGE.rglob("*"):
            if "__pycache__" not in path.parts:
                self.assertRegex(path.name, r"^[a-z0-9_]+(\.py)?$")
        self.assertLessEqual(len(FILES), 100)

    def test_no_tests_inside(self):
        for path in FILES:
            self.assertNotRegex(path.name, r"^(law_|tests?\b|test_|testing|site|conftest|(site|user)customize)")
            self.assertNotIn(path.stem, dir(builtins))

    def test_sizes_and_characters(self):
        for path in FILES:
            text = path.read_text("utf-8")
            lines = text.splitlines()
            with self.subTest(path=path.name):
                self.assertLessEqual(len(lines), 400)
                self.assertLessEqual(max([len(line) for line in lines]), 120)
                self.assertEqual(set(text) - set(map(chr, range(32, 127))) - {"\n"}, set())
                self.assertNotRegex(text, r"(['\"]).*%.*\1")

    def test_barred_words(self):
        for path in FILES:
            text = path.read_text("ascii")
            words = set(re.findall(r"\w+", text))
            self.assertEqual(words & BARRED_WORDS, set(), path.name)
            for part in BARRED_PARTS:
                self.assertNotIn(part, text)

    def test_escapes(self):
        for path in FILES:
            for token in tokenize.generate_tokens(io.StringIO(path.read_text("ascii")).readline):
                if token.type == tokenize.STRING and "b" not in token.string[:2].lower():
                    self.assertNotRegex(token.string.replace("\\\\", ""), r"\\[^nt'\"]")


class Code(unittest.TestCase):
    def test_python_warns_of_no_line(self):
        for path in FILES:
            with warnings.catch_warnings():
                warnings.simplefilter("error")
                compile(path.read_text("ascii"), str(path), "exec")

    def test_imports(self):
        for path, tree in trees():
            for node in ast.walk(tree):
                if isinstance(node, ast.ImportFrom):
                    self.assertEqual(node.level, 0)
                    self.assertRegex(node.module, r"^(stayfast\.\w+|__future__)$")
                    self.assertIn(node, tree.body)
                    self.assertNotIn("*", [alias.name for alias in node.names])

    def test_imports_name_the_file_that_defines_the_name_and_are_used(self):
        homes = {f"stayfast.{path.stem}": tree for path, tree in trees()}
        for path, tree in trees():
            read = {node.id for node in ast.walk(tree) if isinstance(node, ast.Name)}
            for node in tree.body:
                if isinstance(node, ast.ImportFrom) and node.module != "__future__":
                    home = [item for item in homes[node.module].body if not isinstance(item, ast.ImportFrom)]
                    defined = bound_at_the_top(ast.Module(home, []))
                    for alias in node.names:
                        self.assertIn(alias.name, defined, path.name)
                        self.assertIn(alias.asname or alias.name, read, path.name)

    def test_no_two_files_import_from_each_other(self):
        reached = {}
        for path, tree in trees():
            sources = [node.module for node in tree.body if isinstance(node, ast.ImportFrom)]
            reached[f"stayfast.{path.stem}"] = set(sources) - {"__future__"}
        for _ in reached:
            for sources in reached.values():
                sources.update(*[reached[source] for source in sorted(sources)])
        for name, sources in reached.items():
            self.assertNotIn(name, sources)

    def test_each_name_is_bound_once_at_the_top_and_imports_and_classes_nowhere_else(self):
        for path, tree in trees():
            names = bound_at_the_top(tree)
            self.assertEqual(sorted(set(names)), sorted(names), path.name)
            classes = [node.name for node in tree.body if isinstance(node, ast.ClassDef)]
            imports = [node for node in tree.body if isinstance(node, ast.ImportFrom)]
            taken = classes + bound_at_the_top(ast.Module(imports, []))
            for node in ast.walk(tree):
                if isinstance(node, ast.FunctionDef):
                    self.assertEqual(set(bound_names(node)) & set(taken), set(), path.name)

    def test_statements_and_signs(self):
        for path, tree in trees():
            for node in ast.walk(tree):
                self.assertNotIsInstance(node, BARRED_NODES, path.name)
                if isinstance(node, ast.Constant):
                    self.assertNotIsInstance(node.value, float)

    def test_module_level(self):
        allowed = (ast.ImportFrom, ast.FunctionDef, ast.ClassDef, ast.Assign, ast.AnnAssign)
        for path, tree in trees():
            for at, node in enumerate(tree.body):
                if at == 0 and isinstance(node, ast.Expr):
                    continue
                self.assertIsInstance(node, allowed, path.name)

    def test_functions_have_at_most_forty_lines(self):
        for path, tree in trees():
            for node in ast.walk(tree):
                if isinstance(node, FUNCTIONS):
                    self.assertLessEqual(node.end_lineno - node.lineno + 1, 40, path.name)

    def test_no_slash_among_the_parameters(self):
        for path, tree in trees():
            for node in ast.walk(tree):
                if isinstance(node, FUNCTIONS):
                    self.assertEqual(node.args.posonlyargs, [], path.name)

    def test_names(self):
        for path, tree in trees():
            methods = {node for kind in ast.walk(tree) if isinstance(kind, ast.ClassDef) for node in kind.body}
            names = [node.name for node in methods if isinstance(node, ast.FunctionDef)]
            for name in bound_names(tree):
                if name in names:
                    continue
                self.assertRegex(name, r"^[A-Za-z]", path.name)
                self.assertNotIn(name, BARRED_NAMES, path.name)
                self.assertNotIn(name, dir(builtins), path.name)

    def test_builtins(self):
        barred = set(dir(builtins)) - ALLOWED_BUILTINS
        for path, tree in trees():
            read = {node.id for node in ast.walk(tree) if isinstance(node, ast.Name)}
            self.assertEqual(read & barred, set(), path.name)

    def test_no_name_is_a_method_and_an_attribute(self):
        methods, attributes = set(), set()
        for _, tree in trees():
            for node in ast.walk(tree):
                if isinstance(node, ast.ClassDef):
                    methods |= {part.name for part in node.body if isinstance(part, ast.FunctionDef)}
                elif isinstance(node, ast.Attribute) and isinstance(node.ctx, ast.Store):
                    attributes.add(node.attr)
        self.assertEqual(methods & attributes, set())
        builtin = {name for kind in (str, int, list, dict, set, bytes, tuple) for name in dir(kind)}
        self.assertEqual({name for name in methods | attributes if not name.startswith("__")} & builtin, set())

    def test_double_underscore_methods(self):
        allowed = {"__init__", "__eq__", "__repr__", "__str__", "__len__"}
        for path, tree in trees():
            for node in ast.walk(tree):
                if isinstance(node, ast.FunctionDef) and node.name.startswith("__"):
                    self.assertIn(node.name, allowed, path.name)

    def test_errors_are_raised_where_they_are_made(self):
        for path, tree in trees():
            for node in ast.walk(tree):
                if isinstance(node, ast.Raise):
                    self.assertIsInstance(node.exc, ast.Call, path.name)
                    self.assertIsInstance(node.exc.func, ast.Name, path.name)

    def test_a_finally_only_appends(self):
        for path, tree in trees():
            for node in ast.walk(tree):
                if isinstance(node, ast.Try):
                    self.assertEqual(node.handlers, [], path.name)
                    for part in node.finalbody:
                        self.assertIsInstance(part, ast.Expr, path.name)
                        self.assertEqual(part.value.func.attr, "append", path.name)

    def test_what_is_iterated_at_once_is_not_stored(self):
        at_once = {"range", "zip", "enumerate", "reversed", "items", "keys", "values"}
        for path, tree in trees():
            for node in ast.walk(tree):
                if isinstance(node, (ast.Assign, ast.AugAssign, ast.Return)) and isinstance(node.value, ast.Call):
                    called = node.value.func
                    name = called.id if isinstance(called, ast.Name) else getattr(called, "attr", "")
                    self.assertNotIn(name, at_once, path.name)

    def test_what_tells_truths_and_sums_takes_a_list(self):
        takers = {"any", "all", "min", "max", "sum", "sorted"}
        for path, tree in trees():
            for node in ast.walk(tree):
                if isinstance(node, ast.Call) and isinstance(node.func, ast.Name) and node.func.id in takers:
                    for part in node.args:
                        self.assertNotIsInstance(part, ast.GeneratorExp, path.name)

    def test_is_stands_only_with_none_and_truths(self):
        for path, tree in trees():
            for node in ast.walk(tree):
                if isinstance(node, ast.Compare):
                    for sign, right in zip(node.ops, node.comparators):
                        if isinstance(sign, (ast.Is, ast.IsNot)):
                            self.assertIsInstance(right, ast.Constant, path.name)
                            self.assertIn(right.value, (None, True, False), path.name)


if __name__ == "__main__":
    unittest.main()
