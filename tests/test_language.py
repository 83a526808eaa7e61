"""The form of the code: those rules of the language document that a look at each file can show."""

import ast
import builtins
import re
import unittest
from pathlib import Path

PACKAGE = Path(__file__).resolve().parent.parent / "oncenear"
FILES = sorted(PACKAGE.glob("*.py"))

BARRED_WORDS = re.compile(
    r"\b(type|typing|typing_extensions|enum|Enum|IntEnum|StrEnum|Flag|IntFlag|Generic|Protocol|ABC|ABCMeta"
    r"|namedtuple|NamedTuple|TypedDict|TYPE_CHECKING|abstractmethod)\b|dataclass|overload|contextmanager")
BARRED_NAMES = set("register mro elements open input law version_info with_traceback add_note format format_map".split())
USED_BUILTINS = set(
    "len range enumerate zip min max sum abs sorted reversed int str bool bytes list tuple dict set frozenset"
    " isinstance ord repr any all divmod iter next Exception ValueError TypeError KeyError IndexError LookupError"
    " ZeroDivisionError ArithmeticError OverflowError RuntimeError NotImplementedError AttributeError"
    " StopIteration NotImplemented".split())
BUILTIN_METHODS = set(
    "append clear copy count endswith extend find get index insert isalnum isalpha isdigit islower isspace isupper"
    " items join keys ljust lower lstrip partition pop remove replace reverse rfind rjust rpartition rsplit rstrip"
    " setdefault split splitlines startswith strip update upper values zfill bit_length isascii removeprefix".split())
SPECIAL_METHODS = set("__init__ __eq__ __repr__ __str__ __len__ __enter__ __exit__ __call__ __iter__".split())
BARRED_NODES = (ast.Div, ast.Global, ast.AsyncFunctionDef, ast.AsyncFor, ast.AsyncWith, ast.Await, ast.Import)


def bound_names(node):
    """The names that a node of the code gives a meaning to."""
    if isinstance(node, (ast.FunctionDef, ast.ClassDef)):
        return [node.name]
    if isinstance(node, ast.arg):
        return [node.arg]
    if isinstance(node, ast.Name) and isinstance(node.ctx, ast.Store):
        return [node.id]
    if isinstance(node, ast.ImportFrom):
        return [alias.asname or alias.name for alias in node.names]
    return []


def imported_names(tree):
    """The names that a file imports, with the file of the package that each is from."""
    return {alias.name: node.module.rpartition(".")[2] for node in tree.body
            if isinstance(node, ast.ImportFrom) for alias in node.names}


def trees():
    """The name of each file without its ending, and its code."""
    return {path.stem: ast.parse(path.read_text(encoding="utf-8")) for path in FILES}


def placed_nodes():
    """The place and the node, of each node of each file."""
    return [(f"{path.name}:{getattr(node, 'lineno', 0)}", node) for path in FILES
            for node in ast.walk(ast.parse(path.read_text(encoding="utf-8")))]


class Language(unittest.TestCase):
    def test_files_and_lines(self):
        self.assertTrue(FILES)
        for path in FILES:
            text = path.read_text(encoding="utf-8")
            with self.subTest(path.name):
                self.assertRegex(path.name, r"\A[a-z_][a-z0-9_]*\.py\Z")
                self.assertTrue(all(sign == "\n" or " " <= sign <= "~" for sign in text))
                self.assertLessEqual(text.count("\n"), 399)
                self.assertLessEqual(max(len(line) for line in text.split("\n")), 120)
                self.assertIsNone(BARRED_WORDS.search(text))

    def test_the_folder_holds_nothing_else(self):
        names = [path.name for path in PACKAGE.iterdir() if path.name != "__pycache__"]
        self.assertEqual(sorted(names), [path.name for path in FILES])

    def test_statements(self):
        for place, node in placed_nodes():
            self.assertNotIsInstance(node, BARRED_NODES, place)
            if isinstance(node, ast.ImportFrom):
                self.assertTrue(node.level == 0 and node.module.startswith("oncenear."), place)
                self.assertNotIn("*", [alias.name for alias in node.names], place)
            if isinstance(node, ast.FunctionDef):
                self.assertLessEqual(node.end_lineno - node.lineno + 1, 40, place)
                self.assertFalse(node.args.posonlyargs, place)

    def test_powers_and_constants(self):
        for place, node in placed_nodes():
            if isinstance(node, (ast.BinOp, ast.AugAssign)) and isinstance(node.op, ast.Pow):
                power = node.right if isinstance(node, ast.BinOp) else node.value
                self.assertIsInstance(power, ast.Constant, place)
                self.assertTrue(0 <= power.value <= 64, place)
            if isinstance(node, ast.Constant):
                self.assertNotIsInstance(node.value, (float, complex), place)
                self.assertFalse(isinstance(node.value, str) and chr(37) in node.value, place)

    def test_names(self):
        for place, node in placed_nodes():
            for name in bound_names(node):
                self.assertNotIn(name, BARRED_NAMES, place)
                self.assertFalse(name.startswith("_") and name not in SPECIAL_METHODS, place)
                self.assertNotIn(name, dir(builtins), place)
            if isinstance(node, ast.Name) and isinstance(node.ctx, ast.Load) and node.id in dir(builtins):
                self.assertIn(node.id, USED_BUILTINS, place)

    def test_module_level_binds_once(self):
        for path in FILES:
            tree = ast.parse(path.read_text(encoding="utf-8"))
            names = []
            for node in tree.body:
                parts = [node] + (node.targets if isinstance(node, ast.Assign) else [])
                names += [name for part in parts for name in bound_names(part)]
            with self.subTest(path.name):
                self.assertEqual(len(names), len(set(names)))

    def test_methods_and_attributes_have_names_of_their_own(self):
        methods, attributes = set(), set()
        for _, node in placed_nodes():
            if isinstance(node, ast.ClassDef):
                methods |= {part.name for part in node.body if isinstance(part, ast.FunctionDef)}
            if isinstance(node, ast.Attribute) and isinstance(node.ctx, ast.Store):
                attributes.add(node.attr)
        self.assertEqual(methods & attributes, set())

    def test_imports_are_from_the_defining_file_and_used(self):
        all_trees = trees()
        for file_name, tree in all_trees.items():
            used = {node.id for node in ast.walk(tree) if isinstance(node, ast.Name)}
            for name, source in imported_names(tree).items():
                with self.subTest(file=file_name, name=name):
                    own = [part for node in all_trees[source].body if not isinstance(node, ast.ImportFrom)
                           for part in [node] + (node.targets if isinstance(node, ast.Assign) else [])]
                    self.assertIn(name, [found for part in own for found in bound_names(part)])
                    self.assertIn(name, used)

    def test_no_two_files_import_from_each_other(self):
        left = {name: set(imported_names(tree).values()) for name, tree in trees().items()}
        while left:
            ready = [name for name in left if not left[name] & set(left)]
            self.assertTrue(ready, left)
            for name in ready:
                del left[name]

    def test_no_local_name_is_that_of_an_import_or_a_class(self):
        for file_name, tree in trees().items():
            taken = set(imported_names(tree)) | {node.name for node in tree.body if isinstance(node, ast.ClassDef)}
            for node in ast.walk(tree):
                if isinstance(node, ast.FunctionDef):
                    inner = [part for part in ast.walk(node) if part is not node]
                    local = {name for part in inner for name in bound_names(part)}
                    self.assertEqual(local & taken, set(), f"{file_name}: {node.name}")

    def test_calls(self):
        methods = {part.name for _, node in placed_nodes() if isinstance(node, ast.ClassDef)
                   for part in node.body if isinstance(part, ast.FunctionDef)}
        for place, node in placed_nodes():
            self.assertNotIsInstance(node, (ast.GeneratorExp, ast.Set, ast.SetComp), place)
            if isinstance(node, ast.Call) and isinstance(node.func, ast.Attribute):
                self.assertIn(node.func.attr, BUILTIN_METHODS | methods, place)
            if isinstance(node, ast.Compare) and any(isinstance(op, (ast.Is, ast.IsNot)) for op in node.ops):
                self.assertIsInstance(node.comparators[-1], ast.Constant, place)
            if isinstance(node, ast.Raise) and node.exc is not None:
                self.assertIsInstance(node.exc, ast.Call, place)

    def test_each_file_and_function_says_what_it_is(self):
        for place, node in placed_nodes():
            if isinstance(node, (ast.Module, ast.FunctionDef, ast.ClassDef)):
                special = isinstance(node, ast.FunctionDef) and node.name in SPECIAL_METHODS
                self.assertTrue(special or ast.get_docstring(node), place)
