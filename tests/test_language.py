"""The package keeps to the small language that it is written in.

These checks are narrower than the language in places (no generators, for
example): where the package comes to need more of it, widen the check.
"""

import ast
import builtins
import io
import pathlib
import re
import tokenize
import unittest
import warnings

PACKAGE = pathlib.Path(__file__).parent.parent / "allshelves"
FILES = sorted(path for path in PACKAGE.rglob("*") if "__pycache__" not in path.parts)

LIBRARY = {
    "heapq": "heappush heappop heapify heapreplace heappushpop", "math": "gcd lcm isqrt comb perm factorial",
    "itertools": "product combinations permutations chain accumulate pairwise islice zip_longest",
    "collections": "defaultdict",
}
ALLOWED_BUILTINS = set(
    "len range enumerate zip min max sum abs sorted reversed int str bool list tuple dict set isinstance ord repr any all "
    "divmod pow map iter next Exception ValueError TypeError KeyError IndexError LookupError ZeroDivisionError "
    "ArithmeticError OverflowError RuntimeError NotImplementedError AttributeError NotImplemented".split()
)
ALLOWED_METHODS = set(
    "append clear copy count endswith extend find get index insert isalnum isalpha isdigit islower isspace isupper items "
    "join keys ljust lower lstrip partition pop remove replace reverse rfind rjust rpartition rsplit rstrip setdefault "
    "split splitlines startswith strip update upper values zfill bit_length add discard sort".split()
)
ALLOWED_DUNDERS = {"__init__", "__eq__", "__repr__", "__str__", "__len__"}
UNUSED_NAMES = set(
    "register mro elements open input law version_info with_traceback add_note attrgetter breakpoint builtins compile "
    "copyright credits delattr dir eval exec exit gc globals help id importlib license locals methodcaller os quit super "
    "vars sys getattr hasattr setattr".split()
)
UNUSED_WORDS = set(
    "type typing typing_extensions enum Enum IntEnum StrEnum Flag IntFlag Generic Protocol ABC ABCMeta namedtuple "
    "NamedTuple TypedDict TYPE_CHECKING abstractmethod".split()
)
UNUSED_NODES = (
    ast.Global, ast.AsyncFunctionDef, ast.AsyncFor, ast.AsyncWith, ast.Await, ast.Yield, ast.YieldFrom, ast.GeneratorExp,
    ast.Div, ast.MatMult, ast.Import, ast.AnnAssign, ast.TryStar,
)
AT_ONCE = {"zip", "enumerate", "reversed", "map", "items", "keys", "values"}
TAKES_AT_ONCE = {"list", "tuple", "dict", "sorted", "sum", "any", "all", "enumerate", "zip", "min", "max", "join"}


def called(node):
    """The name of the function or method that a node calls, if it is a call."""
    if isinstance(node, ast.Call):
        return getattr(node.func, "id", getattr(node.func, "attr", None))
    return None


def is_builtin(name):
    return hasattr(builtins, name) and not name.startswith("__")


class Source:
    def __init__(self, path):
        self.path = path
        self.text = path.read_text(encoding="utf-8")
        self.tree = ast.parse(self.text)
        self.nodes = list(ast.walk(self.tree))
        self.above = {child: node for node in self.nodes for child in ast.iter_child_nodes(node)}
        self.module = "allshelves" if path.stem == "__init__" else f"allshelves.{path.stem}"

    def of(self, *kinds):
        return [node for node in self.nodes if isinstance(node, kinds)]

    def imports(self):
        return [(node.module, alias.name) for node in self.of(ast.ImportFrom) for alias in node.names]

    def docstrings(self):
        found = []
        for node in self.of(ast.Module, ast.ClassDef, ast.FunctionDef):
            first = node.body[0] if node.body else None
            if isinstance(first, ast.Expr) and isinstance(first.value, ast.Constant):
                found.append(first.value)
        return found

    def bound(self):
        """The names that the module level binds, in order."""
        names = [name for _, name in self.imports()]
        for node in self.tree.body:
            if isinstance(node, (ast.FunctionDef, ast.ClassDef)):
                names.append(node.name)
            if isinstance(node, ast.Assign):
                names.extend(target.id for target in node.targets)
        return names


SOURCES = [Source(path) for path in FILES if path.suffix == ".py"]


class Language(unittest.TestCase):
    def each(self, *kinds):
        for source in SOURCES:
            for node in source.of(*kinds):
                yield source, node, f"{source.path.name}:{getattr(node, 'lineno', 1)}"

    def test_files(self):
        self.assertTrue((PACKAGE / "__init__.py").exists())
        self.assertLessEqual(len(FILES), 100)
        for path in FILES:
            self.assertRegex(path.name, r"^[a-z0-9_]+\.py$")
            self.assertNotRegex(path.stem, r"^(law_.*|tests?|testing|test_.*|site|conftest|.*customize)$")
            self.assertFalse(is_builtin(path.stem), path)

    def test_sizes_and_characters(self):
        for source in SOURCES:
            lines = source.text.split("\n")
            self.assertLessEqual(len(lines), 400, source.path)
            for number, line in enumerate(lines, 1):
                self.assertLessEqual(len(line), 120, f"{source.path.name}:{number}")
            self.assertRegex(source.text, r"\A[ -~\n]*\Z")
        for _, node, place in self.each(ast.FunctionDef):
            self.assertLessEqual(node.end_lineno - node.lineno + 1, 40, place)

    def test_no_warnings(self):
        with warnings.catch_warnings():
            warnings.simplefilter("error")
            for source in SOURCES:
                compile(source.text, str(source.path), "exec")

    def test_imports(self):
        bound = {source.module: source.bound() for source in SOURCES}
        for source in SOURCES:
            for node in source.of(ast.ImportFrom):
                self.assertEqual((node.level, [alias.asname for alias in node.names]), (0, [None] * len(node.names)))
                self.assertIn(node, source.tree.body)
            own = dict.fromkeys(module for module, _ in source.imports() if module not in LIBRARY)
            for module, name in source.imports():
                if module in LIBRARY:
                    self.assertIn(name, LIBRARY[module].split())
                else:
                    self.assertIn(name, bound[module])
                    defined = next(other for other in SOURCES if other.module == module)
                    self.assertNotIn(name, [word for _, word in defined.imports()])
            self.assertNotIn(source.module, own)

    def test_no_circles(self):
        needs = {source.module: {module for module, _ in source.imports()} for source in SOURCES}
        while needs:
            free = [module for module, others in needs.items() if not others & set(needs)]
            self.assertTrue(free, needs)
            needs = {module: others for module, others in needs.items() if module not in free}

    def test_module_level(self):
        for source in SOURCES:
            body = source.tree.body
            for node in body:
                if isinstance(node, ast.Assign):
                    self.assertIsInstance(node.targets[0], ast.Name)
                    self.assertEqual(len(node.targets), 1)
                    ast.literal_eval(node.value)
                elif isinstance(node, ast.Expr):
                    self.assertIn(node.value, source.docstrings())
                else:
                    self.assertIsInstance(node, (ast.ImportFrom, ast.FunctionDef, ast.ClassDef))
            self.assertEqual(len(source.bound()), len(set(source.bound())))

    def test_statements_and_expressions(self):
        for _, node, place in self.each(*UNUSED_NODES):
            self.fail(f"{place}: {type(node).__name__}")
        for _, node, place in self.each(ast.FunctionDef, ast.ClassDef):
            self.assertEqual(node.decorator_list, [], place)
        for _, node, place in self.each(ast.Constant):
            self.assertNotIsInstance(node.value, (float, complex), place)
            if isinstance(node.value, str):
                self.assertNotIn("%", node.value, place)
        for source, node, place in self.each(ast.Starred):
            self.assertIsInstance(node.value, ast.Name, place)
        for _, node, place in self.each(ast.Compare):
            for sign, other in zip(node.ops, node.comparators):
                if isinstance(sign, (ast.Is, ast.IsNot)):
                    self.assertIsInstance(other, ast.Constant, place)

    def test_errors(self):
        for _, node, place in self.each(ast.ExceptHandler):
            self.assertIsNotNone(node.type, place)
        for source, node, place in self.each(ast.Raise):
            self.assertTrue(node.exc is None or called(node.exc), place)

    def test_names(self):
        for source in SOURCES:
            own = source.bound()
            local = [node.id for node in source.of(ast.Name) if not isinstance(node.ctx, ast.Load)]
            local += [node.arg for node in source.of(ast.arg)]
            given = local + own + [node.name for node in source.of(ast.FunctionDef, ast.ClassDef)]
            for name in given:
                self.assertRegex(name, r"^(_|_?[A-Za-z][A-Za-z0-9_]*|__[a-z]+__)$")
                self.assertFalse(is_builtin(name), (source.path.name, name))
                self.assertNotIn(name, UNUSED_NAMES)
                self.assertNotRegex(name, r"^_(wall|pe_|dcw_|enum_|cm_|twin_re_|lay_|law_|stub_|sre|cold|record|outside)")
            fixed = [name for _, name in source.imports()] + [node.name for node in source.of(ast.ClassDef)]
            self.assertEqual([name for name in local if name in fixed], [], source.path)
            for node in source.of(ast.Name):
                if isinstance(node.ctx, ast.Load) and is_builtin(node.id):
                    self.assertIn(node.id, ALLOWED_BUILTINS, source.path)
                self.assertFalse(node.id == "_" and isinstance(node.ctx, ast.Load), source.path)

    def test_words(self):
        for source in SOURCES:
            docstrings = [(node.lineno, node.col_offset) for node in source.docstrings()]
            for token in tokenize.generate_tokens(io.StringIO(source.text).readline):
                if token.type != tokenize.COMMENT and token.start not in docstrings:
                    words = set(re.findall(r"[A-Za-z0-9_]+", token.string))
                    self.assertEqual(words & UNUSED_WORDS, set(), f"{source.path.name}:{token.start[0]}")
            self.assertNotRegex(source.text, r"_wall|dataclass|overload|contextmanager")

    def test_methods(self):
        own = {node.name for _, node, _ in self.each(ast.FunctionDef)}
        attributes = {node.attr for _, node, _ in self.each(ast.Attribute) if isinstance(node.ctx, ast.Store)}
        for _, node, place in self.each(ast.Attribute):
            self.assertIn(node.attr, own | attributes | ALLOWED_METHODS, place)
            self.assertNotIn(node.attr, ("format", "format_map", "mro", "args", "items_"), place)
        for _, node, place in self.each(ast.ClassDef):
            for part in node.body:
                if isinstance(part, ast.FunctionDef) and part.name.startswith("__"):
                    self.assertIn(part.name, ALLOWED_DUNDERS, place)

    def test_no_name_is_a_method_and_an_attribute(self):
        methods, attributes = set(), set()
        for _, node, _ in self.each(ast.ClassDef):
            methods |= {part.name for part in node.body if isinstance(part, ast.FunctionDef)}
        for _, node, _ in self.each(ast.Attribute):
            attributes |= {node.attr} if isinstance(node.ctx, ast.Store) else set()
        self.assertEqual(methods & attributes, set())
        self.assertEqual((methods | attributes) & {"items", "keys", "values", "sort", "args", "format", "encode", "decode", "hex"}, set())

    def test_one_class_compares_by_one_row(self):
        for _, node, place in self.each(ast.FunctionDef):
            if node.name == "__eq__":
                self.assertEqual(ast.unparse(node.body[0]), "return isinstance(other, Bench) and self.text() == other.text()", place)
        for _, node, place in self.each(ast.Call):
            self.assertNotEqual(called(node), "sort", place)

    def test_iterated_at_once(self):
        for source, node, place in self.each(ast.Call):
            if called(node) in AT_ONCE:
                above = source.above[node]
                is_iterated = isinstance(above, (ast.For, ast.comprehension)) and above.iter is node
                self.assertTrue(is_iterated or called(above) in TAKES_AT_ONCE, place)

    def test_sets(self):
        for source, node, place in self.each(ast.Set, ast.SetComp, ast.Call):
            if isinstance(node, ast.Call) and called(node) != "set":
                continue
            above = source.above[node]
            is_measured = called(above) in ("sorted", "len") and above.keywords == []
            self.assertTrue(is_measured or isinstance(above, ast.Compare), place)


if __name__ == "__main__":
    unittest.main()
