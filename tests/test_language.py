"""The rules of the language that the package keeps to, so far as a test sees them simply."""

import ast
import builtins
import re
import unittest
import warnings
from pathlib import Path

PACKAGE = Path(__file__).resolve().parent.parent / "markspass"
FILES = sorted(path for path in PACKAGE.rglob("*") if "__pycache__" not in path.parts)

LIBRARY = {
    "heapq": {"heappush", "heappop", "heapify", "heapreplace", "heappushpop"},
    "math": {"gcd", "lcm", "isqrt", "comb", "perm", "factorial"},
    "itertools": {
        "product", "combinations", "permutations", "chain", "accumulate", "pairwise", "islice", "zip_longest",
    },
    "collections": {"defaultdict", "deque"},
}
BUILTINS = set(
    "len range enumerate zip min max sum abs sorted reversed int str bool bytes list tuple dict set frozenset "
    "isinstance ord repr any all divmod pow getattr hasattr setattr iter next map super property staticmethod "
    "classmethod Exception ValueError TypeError KeyError IndexError LookupError ZeroDivisionError "
    "ArithmeticError OverflowError RuntimeError NotImplementedError AttributeError StopIteration "
    "NotImplemented".split()
)
METHODS = set(
    "append clear copy count endswith extend find get index insert isalnum isalpha isdigit islower isspace "
    "isupper items join keys ljust lower lstrip partition pop remove replace reverse rfind rjust rpartition "
    "rsplit rstrip setdefault split splitlines startswith strip update upper values zfill bit_length add "
    "discard sort".split()
)
BARRED_NAMES = set("register mro elements open input law version_info with_traceback add_note".split())
BARRED_NODES = (
    ast.AsyncFunctionDef, ast.AsyncFor, ast.AsyncWith, ast.Await, ast.Div, ast.Global, ast.Import, ast.MatMult,
)


def tree_of(path):
    """The syntax tree of a file."""
    return ast.parse(path.read_text(encoding="utf-8"))


def functions_of(tree):
    """All functions and methods of a tree."""
    return [node for node in ast.walk(tree) if isinstance(node, ast.FunctionDef)]


def bound_names(tree):
    """All names that a tree gives to anything."""
    names = [node.id for node in ast.walk(tree) if isinstance(node, ast.Name) and isinstance(node.ctx, ast.Store)]
    names += [node.arg for node in ast.walk(tree) if isinstance(node, ast.arg)]
    names += [node.name for node in ast.walk(tree) if isinstance(node, (ast.FunctionDef, ast.ClassDef))]
    return names


class Files(unittest.TestCase):
    def test_the_folder_contains_only_files_with_plain_names(self):
        self.assertIn(PACKAGE / "__init__.py", FILES)
        self.assertLessEqual(len(FILES), 100)
        for path in FILES:
            with self.subTest(path.name):
                self.assertTrue(path.is_file())
                self.assertRegex(path.name, r"\A(__init__|__main__|[a-z][a-z0-9_]*)\.py\Z")
                self.assertNotIn(path.stem, dir(builtins))
                self.assertNotRegex(path.stem, r"\A(law_.*|tests?|testing|test_.*|site|conftest)\Z")

    def test_sizes_and_characters(self):
        for path in FILES:
            data = path.read_bytes()
            with self.subTest(path.name):
                self.assertTrue(all(byte == 10 or 32 <= byte <= 126 for byte in data))
                lines = data.split(b"\n")
                self.assertEqual(lines[-1], b"")
                self.assertLessEqual(len(lines) - 1, 399)
                self.assertLessEqual(max(len(line) for line in lines), 120)

    def test_functions_are_small(self):
        for path in FILES:
            for function in functions_of(tree_of(path)):
                with self.subTest(path.name, function=function.name):
                    self.assertLessEqual(function.end_lineno - function.lineno + 1, 40)

    def test_python_gives_no_warning(self):
        for path in FILES:
            with self.subTest(path.name), warnings.catch_warnings():
                warnings.simplefilter("error")
                compile(path.read_text(encoding="utf-8"), path.name, "exec")


class Imports(unittest.TestCase):
    def imported(self, path):
        """The imports of a file, each as its module and its names; they stand at the top."""
        body = tree_of(path).body
        if isinstance(body[0], ast.Expr):
            body = body[1:]
        imports = [node for node in body if isinstance(node, ast.ImportFrom)]
        self.assertEqual(body[:len(imports)], imports)
        inner = [node for node in ast.walk(tree_of(path)) if isinstance(node, (ast.Import, ast.ImportFrom))]
        self.assertEqual(len(inner), len(imports))
        for node in imports:
            self.assertEqual(node.level, 0)
            self.assertTrue(all(name.asname is None and name.name != "*" for name in node.names))
        return [(node.module, [name.name for name in node.names]) for node in imports]

    def test_only_from_the_package_and_what_the_rules_name(self):
        for path in FILES:
            for module, names in self.imported(path):
                with self.subTest(path.name, module=module):
                    if module in LIBRARY:
                        self.assertLessEqual(set(names), LIBRARY[module])
                        continue
                    self.assertTrue(module.startswith("markspass."))
                    source = PACKAGE.joinpath(*module.split(".")[1:]).with_suffix(".py")
                    self.assertIn(source, FILES)
                    defined = [
                        name for node in tree_of(source).body if not isinstance(node, ast.ImportFrom)
                        for name in bound_names(node)
                    ]
                    self.assertLessEqual(set(names), set(defined))

    def test_no_two_files_import_from_each_other(self):
        reached = {
            f"markspass.{path.stem}": {module for module, _ in self.imported(path) if module not in LIBRARY}
            for path in FILES
        }
        for _ in FILES:
            for name, others in reached.items():
                reached[name] = others.union(*[reached[other] for other in others])
        for name, others in reached.items():
            self.assertNotIn(name, others)

    def test_the_init_file_binds_no_name(self):
        body = tree_of(PACKAGE / "__init__.py").body
        self.assertTrue(all(isinstance(node, ast.Expr) for node in body))


class Words(unittest.TestCase):
    def test_module_level(self):
        for path in FILES:
            for place, node in enumerate(tree_of(path).body):
                with self.subTest(path.name, line=node.lineno):
                    if isinstance(node, ast.Expr):
                        self.assertEqual(place, 0)
                        self.assertIsInstance(node.value.value, str)
                        continue
                    self.assertIsInstance(node, (ast.ImportFrom, ast.FunctionDef, ast.ClassDef, ast.Assign))
                    if isinstance(node, ast.Assign):
                        self.assertEqual(len(node.targets), 1)
                        self.assertIsInstance(node.targets[0], ast.Name)
                        ast.literal_eval(node.value)

    def test_statements_and_literals(self):
        for path in FILES:
            for node in ast.walk(tree_of(path)):
                with self.subTest(path.name, line=getattr(node, "lineno", 0)):
                    self.assertNotIsInstance(node, BARRED_NODES)
                    if isinstance(node, ast.Constant):
                        self.assertNotIsInstance(node.value, (float, complex))
                    if isinstance(node, ast.ExceptHandler):
                        self.assertIsNotNone(node.type)

    def test_names(self):
        for path in FILES:
            for name in bound_names(tree_of(path)):
                with self.subTest(path.name, name=name):
                    self.assertNotIn(name, BARRED_NAMES)
                    self.assertNotIn(name, dir(builtins))
                    self.assertRegex(name, r"\A(_?[A-Za-z][A-Za-z0-9_]*|_|__[a-z]+__)\Z")

    def test_builtins_and_methods(self):
        own = {name for path in FILES for name in bound_names(tree_of(path))}
        for path in FILES:
            for node in ast.walk(tree_of(path)):
                if isinstance(node, ast.Name) and node.id in dir(builtins):
                    with self.subTest(path.name, name=node.id):
                        self.assertIn(node.id, BUILTINS)
                if isinstance(node, ast.Call) and isinstance(node.func, ast.Attribute):
                    with self.subTest(path.name, method=node.func.attr):
                        self.assertIn(node.func.attr, METHODS | own | {"__init__"})

    def test_no_clock_no_randomness_no_files(self):
        for path in FILES:
            text = path.read_text(encoding="utf-8")
            with self.subTest(path.name):
                self.assertIsNone(re.search(r"\b(time|random|secrets|os|sys|pathlib|socket)\.", text))

    def test_names_of_the_library_are_only_called(self):
        library = set().union(*LIBRARY.values())
        for path in FILES:
            tree = tree_of(path)
            called = [node.func for node in ast.walk(tree) if isinstance(node, ast.Call)]
            for node in ast.walk(tree):
                if isinstance(node, ast.Name) and node.id in library - {"deque"}:
                    with self.subTest(path.name, line=node.lineno):
                        self.assertIn(node, called)

    def test_generator_expressions_stand_directly_in_certain_calls(self):
        takers = set("list tuple dict sorted sum min max any all join".split())
        for path in FILES:
            tree = tree_of(path)
            calls = [node for node in ast.walk(tree) if isinstance(node, ast.Call)]
            inside = [
                argument for node in calls for argument in node.args
                if getattr(node.func, "id", getattr(node.func, "attr", None)) in takers
            ]
            for node in ast.walk(tree):
                if isinstance(node, ast.GeneratorExp):
                    with self.subTest(path.name, line=node.lineno):
                        self.assertIn(node, inside)

    def test_strings(self):
        for path in FILES:
            tree = tree_of(path)
            holders = [node for node in ast.walk(tree) if isinstance(node, (ast.Module, ast.FunctionDef, ast.ClassDef))]
            docs = [node.body[0].value for node in holders if node.body and isinstance(node.body[0], ast.Expr)]
            for node in ast.walk(tree):
                if isinstance(node, ast.Constant) and isinstance(node.value, str) and node not in docs:
                    with self.subTest(path.name, line=node.lineno):
                        self.assertNotIn("%", node.value)
                        self.assertNotRegex(node.value, r"\A__.*__\Z|\._{1,2}\Z")
