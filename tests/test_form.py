"""Rules of the language subset that can be seen in the files of the package."""

import ast
import builtins
import pathlib
import re
import unittest

PACKAGE = pathlib.Path(__file__).resolve().parent.parent / "ladderreach"

BUILTINS = set((
    "len range enumerate zip min max sum abs sorted reversed int str bool bytes list tuple dict set frozenset "
    "isinstance ord repr any all divmod pow getattr hasattr setattr iter next type map super property staticmethod "
    "classmethod Exception ValueError TypeError KeyError IndexError LookupError ZeroDivisionError ArithmeticError "
    "OverflowError RuntimeError NotImplementedError AttributeError StopIteration NotImplemented"
).split())

METHODS = set((
    "append clear copy count endswith extend find get index insert isalnum isalpha isdigit islower isspace isupper "
    "items join keys ljust lower lstrip partition pop remove replace reverse rfind rjust rpartition rsplit rstrip "
    "setdefault split splitlines startswith strip update upper values zfill bit_length title capitalize swapcase "
    "casefold center expandtabs removeprefix removesuffix rindex isascii isdecimal isnumeric istitle isidentifier "
    "isprintable translate add discard format popleft appendleft __init__"
).split())

BARRED_NAMES = set((
    "register mro elements open input law version_info with_traceback add_note attrgetter breakpoint builtins compile "
    "copyright credits delattr dir eval exec exit gc globals help id importlib license locals methodcaller os quit "
    "vars sys"
).split())

BARRED_WORDS = set((
    "typing typing_extensions enum Enum IntEnum StrEnum Flag IntFlag Generic Protocol ABC ABCMeta namedtuple "
    "NamedTuple TypedDict TYPE_CHECKING abstractmethod"
).split())

LIBRARY = {
    "heapq": {"heappush", "heappop", "heapify", "heapreplace", "heappushpop"},
    "math": {"gcd", "lcm", "isqrt", "comb", "perm", "factorial"},
    "itertools": {
        "product", "combinations", "permutations", "chain", "accumulate", "pairwise", "islice", "zip_longest",
    },
    "collections": {"defaultdict", "deque"},
}

DOUBLE = set((
    "__init__ __eq__ __repr__ __str__ __len__ __enter__ __exit__ __call__ __iter__ __lt__ __le__ __gt__ __ge__ __ne__ "
    "__bool__ __contains__ __getitem__ __setitem__ __neg__ __pos__ __invert__ __abs__"
).split()) | {f"__{kind}{name}__" for kind in ("", "r", "i") for name in (
    "add sub mul floordiv mod and or xor lshift rshift".split())} | {"__pow__", "__ipow__"}

FORBIDDEN_NODES = (
    ast.AsyncFor, ast.AsyncFunctionDef, ast.AsyncWith, ast.Await, ast.Div, ast.MatMult, ast.TryStar, ast.Import,
)


def files():
    return sorted(PACKAGE.glob("*.py"))


def module_names(tree):
    names = []
    for node in tree.body:
        if isinstance(node, (ast.FunctionDef, ast.ClassDef)):
            names.append(node.name)
        elif isinstance(node, ast.Assign):
            names.extend(target.id for target in node.targets)
        elif isinstance(node, ast.ImportFrom):
            names.extend(alias.name for alias in node.names)
    return names


def bound_names(tree):
    for node in ast.walk(tree):
        if isinstance(node, ast.Name) and not isinstance(node.ctx, ast.Load):
            yield node.id
        elif isinstance(node, ast.arg):
            yield node.arg
        elif isinstance(node, (ast.FunctionDef, ast.ClassDef)):
            yield node.name


class FormTest(unittest.TestCase):
    def each(self):
        texts = [(path, path.read_text("ascii")) for path in files()]
        return [(path, text, ast.parse(text)) for path, text in texts]

    def test_files(self):
        names = [path.name for path in PACKAGE.iterdir() if path.name != "__pycache__"]
        self.assertIn("__init__.py", names)
        self.assertLessEqual(len(names), 100)
        for name in names:
            self.assertRegex(name, r"\A[a-z0-9_]+\.py\Z")

    def test_sizes_and_characters(self):
        for _, text, tree in self.each():
            lines = text.split("\n")
            self.assertLessEqual(len(lines) - 1, 399)
            self.assertLessEqual(max(len(line) for line in lines), 120)
            self.assertRegex(text, r"\A[ -~\n]*\Z")
            for node in ast.walk(tree):
                if isinstance(node, ast.FunctionDef):
                    self.assertLessEqual(node.end_lineno - node.lineno + 1, 40, node.name)

    def test_statements(self):
        for _, _, tree in self.each():
            for node in ast.walk(tree):
                self.assertNotIsInstance(node, FORBIDDEN_NODES)
                if isinstance(node, ast.Constant):
                    self.assertNotIsInstance(node.value, (float, complex))
            for node in tree.body:
                self.assertIsInstance(
                    node, (ast.Expr, ast.ImportFrom, ast.FunctionDef, ast.ClassDef, ast.Assign))
                if isinstance(node, ast.Expr):
                    self.assertIsInstance(node.value, ast.Constant)

    def test_imports(self):
        imported = {}
        for path, _, tree in self.each():
            imported[path.stem] = []
            for node in ast.walk(tree):
                if isinstance(node, ast.ImportFrom):
                    self.assertEqual(node.level, 0)
                    self.assertIn(node, tree.body)
                    top, _, file = node.module.partition(".")
                    names = {alias.name for alias in node.names}
                    if top != "ladderreach":
                        self.assertLessEqual(names, LIBRARY.get(node.module, set()))
                        continue
                    imported[path.stem].append(file)
                    other = ast.parse((PACKAGE / (file + ".py")).read_text())
                    defined = [each for each in other.body if not isinstance(each, ast.ImportFrom)]
                    self.assertLessEqual(names, set(module_names(ast.Module(defined, []))))
        done = []
        while len(done) < len(imported):
            free = [file for file in imported if file not in done and set(imported[file]) <= set(done)]
            self.assertNotEqual(free, [], "files import each other")
            done.extend(free)

    def test_names(self):
        for _, text, tree in self.each():
            top = module_names(tree)
            self.assertEqual(len(top), len(set(top)))
            for name in bound_names(tree):
                self.assertNotIn(name, BARRED_NAMES)
                self.assertTrue(re.fullmatch(r"_?[A-Za-z][A-Za-z0-9_]*|_", name) or name in DOUBLE, name)
                self.assertFalse(hasattr(builtins, name) and name not in DOUBLE, name)
            imports = [alias.name for node in tree.body if isinstance(node, ast.ImportFrom) for alias in node.names]
            classes = [node.name for node in tree.body if isinstance(node, ast.ClassDef)]
            local = [name for node in ast.walk(tree) if isinstance(node, ast.FunctionDef)
                     for child in ast.iter_child_nodes(node) for name in bound_names(child)]
            self.assertEqual(set(local) & set(imports + classes), set())
            self.assertEqual(set(re.findall(r"\w+", text)) & BARRED_WORDS, set())

    def test_builtins_and_methods(self):
        own = set()
        for _, _, tree in self.each():
            own |= {node.name for node in ast.walk(tree) if isinstance(node, ast.FunctionDef)}
        for _, _, tree in self.each():
            for node in ast.walk(tree):
                if isinstance(node, ast.Name) and hasattr(builtins, node.id):
                    self.assertIn(node.id, BUILTINS)
                if isinstance(node, ast.Call) and isinstance(node.func, ast.Attribute):
                    self.assertIn(node.func.attr, METHODS | own)
                if isinstance(node, ast.FunctionDef):
                    for decorator in node.decorator_list:
                        self.assertRegex(
                            ast.unparse(decorator), r"\A(property|staticmethod|classmethod|\w+\.setter)\Z")

    def test_lists_where_a_class_compares(self):
        for _, _, tree in self.each():
            for node in ast.walk(tree):
                if isinstance(node, ast.Call) and isinstance(node.func, ast.Name):
                    if node.func.id in ("any", "all", "min", "max", "sum", "sorted"):
                        self.assertFalse([each for each in node.args if isinstance(each, ast.GeneratorExp)])

    def test_is(self):
        for _, _, tree in self.each():
            for node in ast.walk(tree):
                if isinstance(node, ast.Compare):
                    for sign, right in zip(node.ops, node.comparators):
                        if isinstance(sign, (ast.Is, ast.IsNot)) and not isinstance(right, ast.Name):
                            self.assertIn(ast.unparse(right), ("None", "True", "False"))

    def test_error_classes(self):
        for _, _, tree in self.each():
            for node in ast.walk(tree):
                if isinstance(node, ast.Raise) and node.exc is not None:
                    self.assertIsInstance(node.exc, ast.Call)
                    self.assertIsInstance(node.exc.func, ast.Name)
                if isinstance(node, ast.ExceptHandler):
                    self.assertIsNotNone(node.type)
