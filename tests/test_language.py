"""Rules of the language in which the package is written, as far as the files show them plainly."""

import ast
import builtins
import pathlib
import re
import unittest
import warnings

PACKAGE = pathlib.Path(__file__).resolve().parent.parent / "crewclocks"
FILES = sorted(PACKAGE.glob("*.py"))

BUILTINS = set(
    "len range enumerate zip min max sum abs sorted reversed int str bool bytes list tuple dict set frozenset "
    "isinstance ord repr any all divmod pow map iter next getattr hasattr setattr type super property "
    "staticmethod classmethod NotImplemented Exception ValueError TypeError KeyError IndexError LookupError "
    "ZeroDivisionError ArithmeticError OverflowError RuntimeError NotImplementedError AttributeError "
    "StopIteration".split())
LIBRARY = {
    "heapq": "heappush heappop heapify heapreplace heappushpop",
    "math": "gcd lcm isqrt comb perm factorial",
    "itertools": "product combinations permutations chain accumulate pairwise islice zip_longest",
    "collections": "defaultdict deque",
}
BARRED_NODES = (
    ast.AsyncFunctionDef, ast.AsyncFor, ast.AsyncWith, ast.Await, ast.TryStar, ast.Div, ast.MatMult, ast.Import,
    ast.GeneratorExp, ast.Yield, ast.YieldFrom, ast.Global, ast.Nonlocal, ast.AnnAssign)
BARRED_WORDS = re.compile(
    r"\b(type|typing|typing_extensions|enum|Enum|IntEnum|StrEnum|Flag|IntFlag|Generic|Protocol|ABC|ABCMeta|namedtuple|"
    r"NamedTuple|TypedDict|TYPE_CHECKING|abstractmethod|_wall|_WallAttr)\b|dataclass|overload|contextmanager")
BARRED_NAMES = set(
    "register mro elements open input law version_info with_traceback add_note eval exec compile globals locals "
    "vars dir id help exit quit os sys gc builtins importlib breakpoint delattr attrgetter methodcaller".split())


def bound_names(tree):
    """Names that the file gives a meaning: targets, parameters, functions, classes, imports, caught errors."""
    for node in ast.walk(tree):
        if isinstance(node, ast.Name) and not isinstance(node.ctx, ast.Load):
            yield node.id
        elif isinstance(node, ast.arg):
            yield node.arg
        elif isinstance(node, (ast.FunctionDef, ast.ClassDef)):
            yield node.name
        elif isinstance(node, ast.alias):
            yield node.asname or node.name
        elif isinstance(node, ast.ExceptHandler) and node.name:
            yield node.name


def local_names(function):
    """Names that a function gives a meaning within itself."""
    return [name for name in bound_names(function) if name != function.name]


class Language(unittest.TestCase):
    def each_file(self):
        for path in FILES:
            text = path.read_text()
            yield path, text, ast.parse(text)

    def test_the_folder_holds_plain_files_alone(self):
        found = [path for path in PACKAGE.iterdir() if path.name != "__pycache__"]
        self.assertEqual(sorted(found), FILES)
        self.assertIn(PACKAGE / "__init__.py", FILES)
        for path in FILES:
            self.assertRegex(path.name, r"^[a-z_0-9]+\.py$")

    def test_sizes_and_characters(self):
        for _, text, tree in self.each_file():
            self.assertLessEqual(len(text.splitlines()), 399)
            self.assertRegex(text, r"\A[ -~\n]*\Z")
            for line in text.split("\n"):
                self.assertLessEqual(len(line), 120)
            for node in ast.walk(tree):
                if isinstance(node, ast.FunctionDef):
                    self.assertLessEqual(node.end_lineno - node.lineno + 1, 40, node.name)

    def test_no_warnings(self):
        for path, text, _ in self.each_file():
            with warnings.catch_warnings():
                warnings.simplefilter("error")
                compile(text, str(path), "exec")

    def test_imports(self):
        for _, _, tree in self.each_file():
            for node in ast.walk(tree):
                if isinstance(node, ast.ImportFrom):
                    self.assertEqual(node.level, 0)
                    self.assertIn(node, tree.body)
                    self.assertTrue(all(alias.asname is None for alias in node.names))
                    names = {alias.name for alias in node.names}
                    if node.module in LIBRARY:
                        self.assertLessEqual(names, set(LIBRARY[node.module].split()))
                    else:
                        folder, _, module = node.module.partition(".")
                        self.assertEqual(folder, "crewclocks")
                        source = ast.parse((PACKAGE / f"{module}.py").read_text())
                        self.assertLessEqual(names, set(self.made_in(source)))

    def made_in(self, tree):
        for node in tree.body:
            if isinstance(node, (ast.FunctionDef, ast.ClassDef)):
                yield node.name
            elif isinstance(node, ast.Assign):
                yield node.targets[0].id

    def test_no_two_files_import_each_other(self):
        wanted = {}
        for path, _, tree in self.each_file():
            wanted[path.stem] = {node.module.split(".")[1] for node in tree.body
                                 if isinstance(node, ast.ImportFrom) and node.module.startswith("crewclocks.")}
        while wanted:
            free = [name for name in wanted if not wanted[name] & set(wanted)]
            self.assertNotEqual(free, [], wanted)
            for name in free:
                del wanted[name]

    def test_module_level(self):
        kinds = (ast.ImportFrom, ast.FunctionDef, ast.ClassDef, ast.Assign)
        for _, _, tree in self.each_file():
            names = []
            for at, node in enumerate(tree.body):
                docstring = at == 0 and isinstance(node, ast.Expr) and isinstance(node.value, ast.Constant)
                self.assertTrue(docstring or isinstance(node, kinds), ast.dump(node))
                if isinstance(node, ast.ImportFrom):
                    names.extend(alias.name for alias in node.names)
            names.extend(self.made_in(tree))
            self.assertEqual(len(names), len(set(names)))

    def test_nodes(self):
        for _, text, tree in self.each_file():
            for node in ast.walk(tree):
                self.assertNotIsInstance(node, BARRED_NODES)
                if isinstance(node, ast.Starred):
                    self.assertIsInstance(node.value, ast.Name)
                if isinstance(node, ast.Constant):
                    self.assertNotIsInstance(node.value, (float, complex))
                if isinstance(node, ast.Call) and isinstance(node.func, ast.Attribute):
                    self.assertNotEqual(node.func.attr, "sort")
            self.assertIsNone(BARRED_WORDS.search(text))

    def test_names(self):
        for _, _, tree in self.each_file():
            for name in bound_names(tree):
                # Where a doctest ran in this process, "_" stands among them.
                self.assertNotIn(name, set(vars(builtins)) - {"_"})
                self.assertNotIn(name, BARRED_NAMES)
            own = set(bound_names(tree))
            for node in ast.walk(tree):
                if isinstance(node, ast.Name) and isinstance(node.ctx, ast.Load) and node.id not in own:
                    self.assertIn(node.id, BUILTINS)

    def test_local_names_are_not_those_of_imports_and_classes(self):
        for _, _, tree in self.each_file():
            taken = {alias.name for node in tree.body if isinstance(node, ast.ImportFrom) for alias in node.names}
            taken |= {node.name for node in tree.body if isinstance(node, ast.ClassDef)}
            for node in ast.walk(tree):
                if isinstance(node, ast.FunctionDef):
                    self.assertFalse(taken & set(local_names(node)), node.name)

    def test_no_method_is_an_attribute_of_its_class(self):
        for _, _, tree in self.each_file():
            for node in tree.body:
                if isinstance(node, ast.ClassDef):
                    methods = {part.name for part in node.body if isinstance(part, ast.FunctionDef)}
                    attributes = {part.attr for part in ast.walk(node)
                                  if isinstance(part, ast.Attribute) and isinstance(part.ctx, ast.Store)}
                    self.assertFalse(methods & attributes, node.name)

    def test_exits_assign_and_ask_alone(self):
        kinds = (ast.Assign, ast.If, ast.Attribute, ast.Name, ast.Load, ast.Store, ast.BoolOp, ast.Or, ast.And, ast.Compare, ast.Is, ast.IsNot,
                 ast.Constant, ast.FunctionDef, ast.arguments, ast.arg)
        for _, _, tree in self.each_file():
            for node in ast.walk(tree):
                if isinstance(node, ast.FunctionDef) and node.name == "__exit__":
                    for part in ast.walk(node):
                        self.assertIsInstance(part, kinds)

    def test_strings(self):
        for _, _, tree in self.each_file():
            docstrings = {id(node.body[0].value) for node in ast.walk(tree)
                          if isinstance(node, (ast.Module, ast.ClassDef, ast.FunctionDef)) and ast.get_docstring(node)}
            for node in ast.walk(tree):
                if isinstance(node, ast.Constant) and isinstance(node.value, str) and id(node) not in docstrings:
                    self.assertNotIn("%", node.value)


if __name__ == "__main__":
    unittest.main()
