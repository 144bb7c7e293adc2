"""The rules of the language subset that a look at the source can check, and the shape of the package."""

import ast
import builtins
import pathlib
import re
import unittest

TOP = pathlib.Path(__file__).resolve().parent.parent / "farhaul"
FILES = sorted(TOP.rglob("*.py"))
LIBRARY = {"math": {"gcd", "lcm", "isqrt", "comb", "perm", "factorial"}, "heapq": {"heappush", "heappop"}}
BUILTINS = set(
    "len range enumerate zip min max sum abs sorted reversed int str bool list tuple dict set isinstance "
    "ord repr any all divmod ValueError".split()
)
METHODS = set(
    "append clear copy count endswith extend find get index insert isalnum isalpha isdigit islower isspace isupper "
    "items join keys ljust lower lstrip partition pop remove replace reverse rfind rjust rpartition rsplit rstrip "
    "setdefault split splitlines startswith strip update upper values zfill bit_length __init__".split()
)
CHANGING = {"append", "clear", "extend", "insert", "pop", "remove", "reverse", "setdefault", "update", "sort"}
BARRED_NAMES = set("register mro elements open input law version_info with_traceback add_note".split())
BARRED_WORDS = (
    r"\b(type|typing|typing_extensions|enum|Enum|IntEnum|StrEnum|Flag|IntFlag|Generic|Protocol|ABC|ABCMeta|namedtuple"
    r"|NamedTuple|TypedDict|TYPE_CHECKING|abstractmethod)\b|dataclass|overload|contextmanager|_wall|_WallAttr"
)
STATEMENTS = (
    ast.FunctionDef, ast.ClassDef, ast.Return, ast.Assign, ast.AugAssign, ast.For, ast.While, ast.If, ast.Raise,
    ast.Try, ast.Assert, ast.Delete, ast.ImportFrom, ast.Expr, ast.Pass, ast.Break, ast.Continue,
)
BARRED_NODES = (
    ast.Div, ast.MatMult, ast.Yield, ast.YieldFrom, ast.Await, ast.Lambda, ast.NamedExpr, ast.Set, ast.SetComp,
    ast.Starred, ast.AnnAssign,
)


def module_name(path):
    parts = path.relative_to(TOP.parent).with_suffix("").parts
    return ".".join(parts[:-1] if parts[-1] == "__init__" else parts)


def functions_of(tree):
    return [node for node in ast.walk(tree) if isinstance(node, ast.FunctionDef)]


def parameters_of(function):
    return [argument.arg for argument in function.args.args]


def assigned_in(function):
    names = {node.id for node in ast.walk(function) if isinstance(node, ast.Name) and isinstance(node.ctx, ast.Store)}
    return names | set(parameters_of(function))


class TestLanguage(unittest.TestCase):
    def setUp(self):
        self.texts = {path: path.read_text("utf-8") for path in FILES}
        self.trees = {path: ast.parse(text) for path, text in self.texts.items()}
        self.defined = {}
        for path, tree in self.trees.items():
            names = {node.name for node in tree.body if isinstance(node, (ast.FunctionDef, ast.ClassDef))}
            for node in tree.body:
                if isinstance(node, ast.Assign):
                    names |= {target.id for target in node.targets}
            self.defined[module_name(path)] = names

    def imports(self, tree):
        return [node for node in tree.body if isinstance(node, ast.ImportFrom)]

    def test_files(self):
        self.assertLessEqual(len(FILES), 100)
        for path in TOP.rglob("*"):
            if "__pycache__" in path.parts:
                continue
            if path.is_dir():
                self.assertTrue((path / "__init__.py").is_file(), path)
                self.assertFalse((path.parent / (path.name + ".py")).exists(), path)
            else:
                self.assertEqual(path.suffix, ".py", path)
            if path.stem != "__init__":
                self.assertRegex(path.stem, r"^[a-z][a-z0-9_]*$")
                self.assertFalse(hasattr(builtins, path.stem), path)

    def test_sizes_and_characters(self):
        for path, text in self.texts.items():
            lines = text.split("\n")
            self.assertLessEqual(len(lines), 400, path)
            self.assertRegex(text, r"\A[ -~\n]*\Z")
            for line in lines:
                self.assertLessEqual(len(line), 120, path)
            for function in functions_of(self.trees[path]):
                self.assertLessEqual(function.end_lineno - function.lineno + 1, 40, function.name)

    def test_imports(self):
        for path, tree in self.trees.items():
            for node in ast.walk(tree):
                self.assertNotIsInstance(node, ast.Import, path)
                if isinstance(node, ast.ImportFrom):
                    self.assertIn(node, tree.body, path)
                    known = LIBRARY[node.module] if node.module in LIBRARY else self.defined[node.module]
                    for alias in node.names:
                        self.assertIsNone(alias.asname, path)
                        self.assertIn(alias.name, known, path)

    def test_no_files_import_from_each_other(self):
        below = {module_name(path): {node.module for node in self.imports(tree)} for path, tree in self.trees.items()}
        settled = set(LIBRARY)
        while len(settled) < len(below) + len(LIBRARY):
            more = {name for name in below if name not in settled and below[name] <= settled}
            self.assertTrue(more, "imports go round")
            settled |= more

    def test_module_level(self):
        for path, tree in self.trees.items():
            for node in tree.body:
                plain = isinstance(node, ast.Assign) and len(node.targets) == 1
                text = isinstance(node, ast.Expr) and isinstance(node.value, ast.Constant)
                kinds = (ast.FunctionDef, ast.ClassDef, ast.ImportFrom)
                self.assertTrue(plain or text or isinstance(node, kinds), path)

    def test_statements_and_expressions(self):
        for path, tree in self.trees.items():
            for node in ast.walk(tree):
                if isinstance(node, ast.stmt):
                    self.assertIsInstance(node, STATEMENTS, path)
                self.assertNotIsInstance(node, BARRED_NODES, path)
                if isinstance(node, (ast.FunctionDef, ast.ClassDef)):
                    self.assertEqual(node.decorator_list, [], path)
                if isinstance(node, ast.FunctionDef):
                    self.assertFalse(node.args.vararg or node.args.kwarg or node.args.kwonlyargs, path)
                if isinstance(node, ast.Constant):
                    self.assertNotIsInstance(node.value, (float, complex, bytes), path)
                    if isinstance(node.value, str):
                        self.assertNotIn("%", node.value, path)
                        self.assertNotIn("\\", node.value, path)
                if isinstance(node, ast.BinOp) and isinstance(node.op, ast.Pow):
                    self.assertIsInstance(node.right, ast.Constant, path)
                if isinstance(node, ast.Compare):
                    for op, side in zip(node.ops, node.comparators):
                        if isinstance(op, (ast.Is, ast.IsNot)):
                            self.assertIsInstance(side, ast.Constant, path)

    def test_builtins_and_methods(self):
        methods = set(METHODS)
        for tree in self.trees.values():
            for node in ast.walk(tree):
                if isinstance(node, ast.ClassDef):
                    methods |= {part.name for part in node.body if isinstance(part, ast.FunctionDef)}
        for path, tree in self.trees.items():
            here = set(self.defined[module_name(path)])
            for node in self.imports(tree):
                here |= {alias.name for alias in node.names}
            for function in functions_of(tree):
                known = here | BUILTINS | assigned_in(function)
                for node in ast.walk(function):
                    if isinstance(node, ast.Name):
                        self.assertIn(node.id, known, path)
                    if isinstance(node, ast.Call) and isinstance(node.func, ast.Attribute):
                        self.assertIn(node.func.attr, methods, path)

    def test_names(self):
        for path, tree in self.trees.items():
            bound = set(self.defined[module_name(path)])
            imported = {alias.name for node in self.imports(tree) for alias in node.names}
            classes = {node.name for node in tree.body if isinstance(node, ast.ClassDef)}
            self.assertFalse(bound & imported, path)
            for function in functions_of(tree):
                names = assigned_in(function)
                self.assertFalse(names & (imported | classes), (path, function.name))
                bound |= names
                reads = [node for node in ast.walk(function) if isinstance(node, ast.Name) and node.id == "_"]
                self.assertTrue(all(isinstance(node.ctx, ast.Store) for node in reads), path)
            # The examples of the README leave a builtin `_` behind.
            for name in bound - {"_"}:
                self.assertFalse(hasattr(builtins, name), (path, name))
                self.assertNotIn(name, BARRED_NAMES, path)
                self.assertRegex(name, r"^(_|_?[A-Za-z][A-Za-z0-9_]*)$")
            attributes = {node.attr for node in ast.walk(tree) if isinstance(node, ast.Attribute)}
            self.assertFalse(attributes & BARRED_NAMES, path)

    def test_words(self):
        for path, text in self.texts.items():
            for node in ast.walk(self.trees[path]):
                words = [getattr(node, part, None) for part in ("id", "name", "attr", "arg")]
                for word in words:
                    if isinstance(word, str):
                        self.assertIsNone(re.search(BARRED_WORDS, word), (path, word))

    def test_methods_and_attributes_have_different_names(self):
        for path, tree in self.trees.items():
            for node in tree.body:
                if isinstance(node, ast.ClassDef):
                    methods = [part.name for part in node.body if isinstance(part, ast.FunctionDef)]
                    self.assertEqual(len(methods), len(set(methods)), path)
                    attributes = {
                        part.attr for part in ast.walk(node)
                        if isinstance(part, ast.Attribute) and isinstance(part.ctx, ast.Store)
                    }
                    self.assertFalse(attributes & set(methods), path)

    def test_arguments_are_not_changed(self):
        for path, tree in self.trees.items():
            for function in functions_of(tree):
                given = set(parameters_of(function)) - {"self"}
                for node in ast.walk(function):
                    changed = None
                    if isinstance(node, (ast.Subscript, ast.Attribute)) and not isinstance(node.ctx, ast.Load):
                        changed = node.value
                    if isinstance(node, ast.Call) and isinstance(node.func, ast.Attribute):
                        if node.func.attr in CHANGING:
                            changed = node.func.value
                    while isinstance(changed, (ast.Subscript, ast.Attribute)):
                        changed = changed.value
                    if isinstance(changed, ast.Name):
                        self.assertNotIn(changed.id, given, (path, function.name))
