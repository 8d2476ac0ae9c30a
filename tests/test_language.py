"""Those rules of LANGUAGE.md that a look at the syntax can decide, for each file of the package."""

import ast
import builtins
import pathlib
import re
import unittest

PACKAGE = pathlib.Path(__file__).resolve().parent.parent / "limitweave"
BUILTINS = set("""len range enumerate zip min max sum abs sorted reversed int str bool list tuple dict set isinstance ord
repr any all divmod pow iter next getattr hasattr setattr map Exception ValueError TypeError KeyError IndexError
LookupError ZeroDivisionError ArithmeticError OverflowError RuntimeError NotImplementedError AttributeError
StopIteration NotImplemented super property staticmethod classmethod""".split())
METHODS = set("""append clear copy count endswith extend find get index insert isalnum isalpha isdigit islower isspace
isupper items join keys ljust lower lstrip partition pop remove replace reverse rfind rjust rpartition rsplit rstrip
setdefault split splitlines startswith strip update upper values zfill bit_length sort add discard""".split())
BARRED_ATTRIBUTES = set("""items keys values pop update append clear extend insert remove reverse setdefault sort args
encode decode hex fromhex format format_map mro""".split())
BARRED_NAMES = set("""register mro elements open input law version_info with_traceback add_note attrgetter breakpoint
compile copyright credits delattr dir eval exec exit gc globals help id importlib license locals methodcaller os quit
type vars sys""".split())
BARRED_WORDS = set("""type typing typing_extensions enum Enum IntEnum StrEnum Flag IntFlag Generic Protocol ABC ABCMeta
namedtuple NamedTuple TypedDict TYPE_CHECKING abstractmethod""".split())
SPECIAL = set("""__init__ __eq__ __repr__ __str__ __len__ __enter__ __exit__ __call__ __iter__ __lt__ __le__ __gt__ __ge__
__ne__ __bool__ __contains__ __getitem__ __setitem__""".split())
STATEMENTS = (
    ast.FunctionDef, ast.ClassDef, ast.Assign, ast.AugAssign, ast.If, ast.While, ast.For, ast.Return, ast.Break,
    ast.Continue, ast.Pass, ast.Raise, ast.Assert, ast.Delete, ast.Nonlocal, ast.With, ast.Try, ast.Expr,
    ast.ImportFrom,
)


def package_files():
    return sorted(path for path in PACKAGE.rglob("*") if path.is_file() and "__pycache__" not in path.parts)


def names_bound(tree):
    """The names of variables, parameters, functions and classes of a file, but not those of methods."""
    methods = {method for node in ast.walk(tree) if isinstance(node, ast.ClassDef) for method in node.body}
    for node in ast.walk(tree):
        if isinstance(node, ast.Name) and not isinstance(node.ctx, ast.Load):
            yield node.id, node
        elif isinstance(node, ast.arg):
            yield node.arg, node
        elif isinstance(node, ast.ClassDef) or isinstance(node, ast.FunctionDef) and node not in methods:
            yield node.name, node
        elif isinstance(node, ast.ImportFrom):
            for alias in node.names:
                yield alias.asname or alias.name, node


class Language(unittest.TestCase):
    @classmethod
    def setUpClass(cls):
        cls.trees = {path.name: ast.parse(path.read_text("ascii")) for path in package_files()}
        cls.defined = {
            node.name for tree in cls.trees.values() for node in ast.walk(tree)
            if isinstance(node, (ast.FunctionDef, ast.ClassDef))
        }

    def nodes(self):
        for name, tree in self.trees.items():
            for node in ast.walk(tree):
                yield f"{name}:{getattr(node, 'lineno', 0)}", node

    def test_files_and_lines(self):
        for path in package_files():
            self.assertRegex(path.name, r"^[a-z0-9_]+\.py$")
            text = path.read_bytes().decode("ascii")
            lines = text.split("\n")
            self.assertLessEqual(len(lines), 400, path.name)
            for number, line in enumerate(lines, start=1):
                self.assertRegex(line, r"^[ -~]{0,120}$", f"{path.name}:{number}")
        self.assertIn("__init__.py", self.trees)

    def test_size_of_functions(self):
        for place, node in self.nodes():
            if isinstance(node, ast.FunctionDef):
                self.assertLessEqual(node.end_lineno - node.lineno + 1, 40, place)

    def test_module_level(self):
        for name, tree in self.trees.items():
            for node in tree.body:
                place = f"{name}:{node.lineno}"
                if isinstance(node, ast.Assign):
                    self.assertEqual([type(target) for target in node.targets], [ast.Name], place)
                    ast.literal_eval(node.value)
                elif isinstance(node, ast.Expr):
                    self.assertIsInstance(ast.literal_eval(node.value), str, place)
                else:
                    self.assertIsInstance(node, (ast.ImportFrom, ast.FunctionDef, ast.ClassDef), place)

    def test_imports(self):
        imported = {}
        for name, tree in self.trees.items():
            ends = [at for at, node in enumerate(tree.body) if isinstance(node, ast.ImportFrom)]
            others = [at for at, node in enumerate(tree.body) if isinstance(node, (ast.Assign, ast.FunctionDef, ast.ClassDef))]
            self.assertTrue(not ends or not others or max(ends) < min(others), name)
            imported[name] = []
            for node in [tree.body[at] for at in ends]:
                self.assertEqual(node.level, 0, name)
                if node.module in ("heapq", "math", "itertools"):
                    continue
                self.assertRegex(node.module, r"^limitweave\.[a-z_]+$")
                file = node.module.split(".")[1] + ".py"
                imported[name].append(file)
                own = {word for part in self.trees[file].body for word, _ in names_bound(part)}
                self.assertLessEqual({alias.name for alias in node.names}, own, name)
        while imported:
            free = [name for name, files in imported.items() if not any(file in imported for file in files)]
            self.assertTrue(free, f"these import from each other: {sorted(imported)}")
            imported = {name: files for name, files in imported.items() if name not in free}

    def test_imports_are_used(self):
        for name, tree in self.trees.items():
            used = {node.id for node in ast.walk(tree) if isinstance(node, ast.Name)}
            for node in tree.body:
                if isinstance(node, ast.ImportFrom):
                    self.assertLessEqual({alias.name for alias in node.names}, used, name)

    def test_statements_and_expressions(self):
        for place, node in self.nodes():
            if isinstance(node, ast.stmt):
                self.assertIsInstance(node, STATEMENTS, place)
            self.assertNotIsInstance(node, (ast.Await, ast.Div, ast.MatMult), place)
            if isinstance(node, ast.Constant):
                self.assertNotIsInstance(node.value, (float, complex), place)
                if isinstance(node.value, str):
                    self.assertNotIn("%", node.value, place)
                    self.assertNotRegex(node.value, r"\._{1,2}$", place)
            if isinstance(node, ast.Compare):
                for sign, right in zip(node.ops, node.comparators):
                    if isinstance(sign, (ast.Is, ast.IsNot)):
                        self.assertIn(ast.unparse(right), ("None", "True", "False", "self"), place)
            if isinstance(node, ast.FunctionDef):
                for decorator in node.decorator_list:
                    self.assertRegex(ast.unparse(decorator), r"^(property|staticmethod|classmethod|\w+\.setter)$", place)

    def test_names(self):
        for file, tree in self.trees.items():
            tops = {node.name for node in tree.body if isinstance(node, ast.ClassDef)}
            imports = {alias.name for node in tree.body if isinstance(node, ast.ImportFrom) for alias in node.names}
            for name, node in names_bound(tree):
                place = f"{file}:{node.lineno} {name}"
                self.assertRegex(name, r"^(_?[A-Za-z][A-Za-z0-9_]*|_)$", place)
                self.assertFalse(hasattr(builtins, name), place)
                self.assertNotIn(name, BARRED_NAMES, place)
                if not isinstance(node, (ast.ClassDef, ast.ImportFrom)):
                    self.assertNotIn(name, tops | imports, place)

    def test_barred_words(self):
        for path in package_files():
            tree = self.trees[path.name]
            words = re.findall(r"[A-Za-z_]\w*", ast.unparse(tree))
            docstrings = [ast.get_docstring(node) or "" for node in ast.walk(tree)
                          if isinstance(node, (ast.Module, ast.ClassDef, ast.FunctionDef))]
            plain = set(words) - set(re.findall(r"\w+", " ".join(docstrings)))
            self.assertEqual(plain & BARRED_WORDS, set(), path.name)
            self.assertNotIn("_wall", path.read_text("ascii"))

    def test_builtins_and_methods(self):
        for place, node in self.nodes():
            if isinstance(node, ast.Name) and hasattr(builtins, node.id):
                self.assertIn(node.id, BUILTINS, place)
            if isinstance(node, ast.Call) and isinstance(node.func, ast.Attribute):
                name = node.func.attr
                self.assertTrue(name in METHODS or name in self.defined or name == "__init__", f"{place} {name}")
            if isinstance(node, ast.Attribute) and not isinstance(node.ctx, ast.Load):
                self.assertNotIn(node.attr, BARRED_ATTRIBUTES | {"register", "elements", "open", "input", "law"}, place)

    def test_special_methods(self):
        for place, node in self.nodes():
            if isinstance(node, ast.FunctionDef) and node.name.startswith("__"):
                self.assertIn(node.name, SPECIAL, place)
