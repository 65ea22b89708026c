"""The rules of ../shared/LANGUAGE.md that can be told from the code alone."""

import ast
import builtins
import pathlib
import re
import unittest
import warnings

PACKAGE = pathlib.Path(__file__).resolve().parent.parent / "growntexts"
FILES = sorted(path for path in PACKAGE.rglob("*") if path.is_file() and "__pycache__" not in path.parts)

LIBRARY = {
    "heapq": {"heappush", "heappop", "heapify", "heapreplace", "heappushpop"},
    "math": {"gcd", "lcm", "isqrt", "comb", "perm", "factorial"},
    "itertools": {"product", "combinations", "permutations", "chain", "accumulate", "pairwise", "islice", "zip_longest"},
    "collections": {"defaultdict"},
}
BUILTINS = """len range enumerate zip min max sum abs sorted reversed int str bool bytes list tuple dict set frozenset
isinstance ord repr any all divmod pow getattr hasattr setattr iter next map super property staticmethod classmethod
Exception ValueError TypeError KeyError IndexError LookupError ZeroDivisionError ArithmeticError OverflowError
RuntimeError NotImplementedError AttributeError StopIteration NotImplemented object""".split()
METHODS = """append clear copy count endswith extend find get index insert isalnum isalpha isdigit islower isspace isupper
items join keys ljust lower lstrip partition pop remove replace reverse rfind rjust rpartition rsplit rstrip setdefault
split splitlines startswith strip update upper values zfill bit_length title capitalize swapcase casefold center
expandtabs removeprefix removesuffix rindex isascii isdecimal isnumeric istitle isidentifier isprintable translate sort
add discard""".split()
DOUBLE = """__init__ __eq__ __repr__ __str__ __len__ __enter__ __exit__ __call__ __iter__""".split()
BARRED_NAMES = {"register", "mro", "elements", "open", "input", "law", "version_info", "with_traceback", "add_note"}
BARRED_WORDS = re.compile(
    r"\b(type|typing|typing_extensions|enum|Enum|IntEnum|StrEnum|Flag|IntFlag|Generic|Protocol|ABC|ABCMeta|namedtuple"
    r"|NamedTuple|TypedDict|TYPE_CHECKING|abstractmethod)\b|dataclass|overload|contextmanager|_wall|_WallAttr"
)
BARRED_NODES = (
    ast.Global, ast.AsyncFunctionDef, ast.AsyncFor, ast.AsyncWith, ast.Await, ast.Import, ast.Div, ast.MatMult,
    ast.TryStar,
)
LISTS_ONLY = {"any", "all", "min", "max", "sum", "sorted"}


VIEWS = {"zip", "enumerate", "reversed", "range", "items", "keys", "values"}
TAKING_VIEWS = {"list", "tuple", "dict", "sorted", "sum", "any", "all", "enumerate", "zip", "min", "max", "reversed", "len"}


def name_of(node):
    """The name of what a node calls, or None."""
    if not isinstance(node, ast.Call):
        return None
    return node.func.attr if isinstance(node.func, ast.Attribute) else getattr(node.func, "id", None)


def functions_of(tree):
    return [node for node in ast.walk(tree) if isinstance(node, ast.FunctionDef)]


def bound_names(tree):
    """All names that a file gives to something."""
    for node in ast.walk(tree):
        if isinstance(node, (ast.FunctionDef, ast.ClassDef)):
            yield node.name
        elif isinstance(node, ast.arg):
            yield node.arg
        elif isinstance(node, ast.Name) and isinstance(node.ctx, ast.Store):
            yield node.id
        elif isinstance(node, ast.Attribute) and isinstance(node.ctx, ast.Store):
            yield node.attr
        elif isinstance(node, ast.alias):
            yield node.asname or node.name


def without_comments_and_docstrings(source):
    tree = ast.parse(source)
    for node in ast.walk(tree):
        if isinstance(node, (ast.Module, ast.ClassDef, ast.FunctionDef)) and ast.get_docstring(node) is not None:
            node.body = node.body[1:] or [ast.Pass()]
    return ast.unparse(tree)


def defined_names(path):
    """The names of the functions, the classes and the values that a file defines."""
    body = ast.parse(path.read_text(encoding="utf-8")).body
    names = {one.name for one in body if isinstance(one, (ast.FunctionDef, ast.ClassDef))}
    return names | {one.targets[0].id for one in body if isinstance(one, ast.Assign)}


def each_file():
    """The path, the text and the tree of each file."""
    sources = [path.read_text(encoding="utf-8") for path in FILES]
    return [(path, source, ast.parse(source)) for path, source in zip(FILES, sources)]


class LanguageTest(unittest.TestCase):
    def test_files(self):
        self.assertIn(PACKAGE / "programs.py", FILES)
        for path in FILES:
            self.assertRegex(path.name, r"\A[a-z0-9_]+\.py\Z")
            self.assertNotIn(path.stem, dir(builtins))
            self.assertNotRegex(path.stem, r"\A(law_.*|test.*|tests|testing|site|conftest|\w+customize)\Z")

    def test_characters_and_sizes(self):
        for _, source, tree in each_file():
            self.assertRegex(source, r"\A[ -~\n]*\Z")
            lines = source.split("\n")
            self.assertLess(len(lines), 400)
            self.assertLessEqual(max(len(line) for line in lines), 120)
            for node in functions_of(tree):
                self.assertLessEqual(node.end_lineno - node.lineno + 1, 40, node.name)

    def test_python_gives_no_warning(self):
        for path, source, _ in each_file():
            with warnings.catch_warnings():
                warnings.simplefilter("error")
                compile(source, path.name, "exec")

    def test_imports(self):
        imported = {}
        for path, _, tree in each_file():
            imported[path.stem] = set()
            for node in ast.walk(tree):
                if not isinstance(node, ast.ImportFrom):
                    continue
                self.assertIn(node, tree.body)
                names = {alias.name for alias in node.names}
                self.assertFalse([alias for alias in node.names if alias.asname or alias.name == "*"])
                self.assertEqual(node.level, 0)
                if node.module in LIBRARY:
                    self.assertLessEqual(names, LIBRARY[node.module])
                    continue
                package, module = node.module.split(".")
                self.assertEqual(package, "growntexts")
                self.assertLessEqual(names, defined_names(PACKAGE / f"{module}.py"))
                imported[path.stem].add(module)
        while imported:
            free = [name for name, others in imported.items() if not others & set(imported)]
            self.assertTrue(free, "files import from each other")
            for name in free:
                del imported[name]

    def test_imported_names_are_used(self):
        for _, _, tree in each_file():
            names = [alias.name for node in ast.walk(tree) if isinstance(node, ast.ImportFrom) for alias in node.names]
            used = {node.id for node in ast.walk(tree) if isinstance(node, ast.Name)}
            self.assertLessEqual(set(names), used)
            self.assertEqual(len(names), len(set(names)))

    def test_statements_and_expressions(self):
        for _, _, tree in each_file():
            for node in ast.walk(tree):
                self.assertNotIsInstance(node, BARRED_NODES)
                if isinstance(node, ast.Constant):
                    self.assertNotIsInstance(node.value, (float, complex))
                if isinstance(node, ast.Constant) and isinstance(node.value, str):
                    self.assertNotIn("%", node.value)
                if isinstance(node, ast.Compare) and {ast.Is, ast.IsNot} & {type(sign) for sign in node.ops}:
                    self.assertIsInstance(node.comparators[0], ast.Constant)

    def test_module_level(self):
        for _, _, tree in each_file():
            self.assertTrue(ast.get_docstring(tree))
            for node in tree.body[1:]:
                self.assertIsInstance(node, (ast.ImportFrom, ast.FunctionDef, ast.ClassDef, ast.Assign))
            for node in ast.walk(tree):
                if isinstance(node, (ast.FunctionDef, ast.ClassDef)):
                    if node.name not in DOUBLE:
                        self.assertTrue(ast.get_docstring(node), node.name)

    def test_names(self):
        for _, _, tree in each_file():
            for name in bound_names(tree):
                self.assertNotIn(name, BARRED_NAMES)
                # A session of doctest leaves a builtin of this name, which may be assigned.
                if name != "_":
                    self.assertNotIn(name, dir(builtins))
                if name not in DOUBLE:
                    self.assertRegex(name, r"\A(_?[A-Za-z][A-Za-z0-9_]*|_)\Z")
            local = set(bound_names(tree))
            for node in ast.walk(tree):
                if isinstance(node, ast.Name) and node.id not in local:
                    self.assertIn(node.id, BUILTINS)
                if isinstance(node, ast.Attribute) and node.attr.startswith("__"):
                    self.assertIn(node.attr, ("__init__", "__class__", "__name__"))

    def test_local_names(self):
        for _, _, tree in each_file():
            outer = {alias.name for node in tree.body if isinstance(node, ast.ImportFrom) for alias in node.names}
            outer |= {node.name for node in tree.body if isinstance(node, ast.ClassDef)}
            names = [node.arg for node in ast.walk(tree) if isinstance(node, ast.arg)]
            names += [
                node.id for one in functions_of(tree) for node in ast.walk(one)
                if isinstance(node, ast.Name) and isinstance(node.ctx, ast.Store)
            ]
            self.assertEqual(outer & set(names), set())

    def test_barred_words(self):
        for _, source, _ in each_file():
            self.assertNotRegex(without_comments_and_docstrings(source), BARRED_WORDS)

    def test_decorators(self):
        for _, _, tree in each_file():
            for node in ast.walk(tree):
                if isinstance(node, ast.ClassDef):
                    self.assertEqual(node.decorator_list, [])
            for node in functions_of(tree):
                for mark in node.decorator_list:
                    self.assertIn(ast.unparse(mark).split(".")[-1], ("classmethod", "staticmethod", "property", "setter"))

    def test_builtins_take_lists(self):
        # The package has classes with `==`, so these take no generator expressions (L7).
        for _, _, tree in each_file():
            for node in ast.walk(tree):
                if isinstance(node, ast.Call) and isinstance(node.func, ast.Name) and node.func.id in LISTS_ONLY:
                    self.assertNotIsInstance(node.args[0], ast.GeneratorExp)

    def test_views_and_the_like_are_iterated_at_once(self):
        for _, _, tree in each_file():
            for node in ast.walk(tree):
                if not isinstance(node, ast.Call) or name_of(node) in TAKING_VIEWS:
                    continue
                for argument in node.args:
                    self.assertNotIn(name_of(argument), VIEWS, ast.unparse(node))
            for node in ast.walk(tree):
                if isinstance(node, (ast.Assign, ast.Return)):
                    self.assertNotIn(name_of(node.value), VIEWS, ast.unparse(node))

    def test_sets_are_only_tested_measured_and_sorted(self):
        for _, _, tree in each_file():
            allowed = [
                argument for node in ast.walk(tree)
                if isinstance(node, ast.Call) and name_of(node) in ("len", "sorted") for argument in node.args
            ]
            for node in ast.walk(tree):
                if isinstance(node, (ast.Set, ast.SetComp)) or name_of(node) in ("set", "frozenset"):
                    self.assertIn(node, allowed, ast.unparse(node))

    def test_stars_in_calls(self):
        own = {node.name for _, _, tree in each_file() for node in ast.walk(tree) if isinstance(node, (ast.FunctionDef, ast.ClassDef))}
        for _, _, tree in each_file():
            local = {node.id for node in ast.walk(tree) if isinstance(node, ast.Name) and isinstance(node.ctx, ast.Store)}
            for node in ast.walk(tree):
                if isinstance(node, ast.Call) and any(isinstance(argument, ast.Starred) for argument in node.args):
                    self.assertIn(name_of(node), own | local | {"zip", "max", "min"})
                    for argument in node.args:
                        if isinstance(argument, ast.Starred):
                            self.assertIsInstance(argument.value, (ast.Name, ast.Attribute))

    def test_named_expressions_stand_in_tests(self):
        for _, _, tree in each_file():
            tests = [node.test for node in ast.walk(tree) if isinstance(node, (ast.If, ast.While))]
            found = [one for test in tests for one in ast.walk(test) if isinstance(one, ast.NamedExpr)]
            self.assertEqual(len(found), len([node for node in ast.walk(tree) if isinstance(node, ast.NamedExpr)]))
            for one in functions_of(tree):
                named = {node.target.id for node in ast.walk(one) if isinstance(node, ast.NamedExpr)}
                loops = [node.target for node in ast.walk(one) if isinstance(node, (ast.For, ast.comprehension))]
                self.assertFalse(named & {node.id for loop in loops for node in ast.walk(loop) if isinstance(node, ast.Name)})
                self.assertFalse(named & {node.arg for node in ast.walk(one) if isinstance(node, ast.arg)})

    def test_handlers_and_finally(self):
        for _, _, tree in each_file():
            for node in ast.walk(tree):
                if isinstance(node, ast.Try):
                    self.assertLessEqual({ast.unparse(handler.type) for handler in node.handlers}, {"InvalidText"})
                    for one in node.finalbody:
                        self.assertIsInstance(one, ast.Assign)
                        parts = [part for part in ast.walk(one) if isinstance(part, ast.expr)]
                        self.assertFalse([part for part in parts if not isinstance(part, (ast.Name, ast.Attribute, ast.Tuple))])

    def test_names_of_methods_and_attributes(self):
        # No name is a method and an attribute, and properties have names of their own.
        methods, properties, attributes = set(), set(), set()
        for _, _, tree in each_file():
            for node in ast.walk(tree):
                if isinstance(node, ast.ClassDef):
                    for one in [one for one in node.body if isinstance(one, ast.FunctionDef)]:
                        is_property = "property" in [ast.unparse(mark) for mark in one.decorator_list]
                        (properties if is_property else methods).add(one.name)
                if isinstance(node, ast.Attribute) and isinstance(node.ctx, ast.Store):
                    attributes.add(node.attr)
        self.assertEqual(properties, {"program", "spot", "texts", "heard", "shown"})
        self.assertEqual((methods & attributes, properties & attributes, methods & properties), (set(), set(), set()))
        self.assertEqual(attributes & {"items", "keys", "values", "pop", "update", "append", "clear", "insert", "remove", "args"}, set())

    def test_methods_of_builtin_values(self):
        own = {"format"}
        for _, _, tree in each_file():
            own |= {node.name for node in functions_of(tree)}
        for _, _, tree in each_file():
            for node in ast.walk(tree):
                if isinstance(node, ast.Call) and isinstance(node.func, ast.Attribute):
                    self.assertIn(node.func.attr, own | set(METHODS))


if __name__ == "__main__":
    unittest.main()
