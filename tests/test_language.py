"""Tests that the package keeps to the plain part of Python that it is written in.

Only rules that can be seen line by line are looked at here: sizes, characters, imports,
words that are not used, builtins, methods of builtin values, kinds of statements, places.
"""

import ast
import builtins
import io
import pathlib
import re
import tokenize
import unittest
import warnings

ROOT = pathlib.Path(__file__).resolve().parent.parent
FILES = sorted((ROOT / "fademodes").glob("**/*.py"))
TREES = [(path, ast.parse(path.read_text("utf-8"))) for path in FILES]

BUILTINS = set("""len range enumerate zip min max sum abs sorted reversed int str bool bytes list tuple dict set frozenset
isinstance ord repr any all divmod pow iter next Exception ValueError TypeError KeyError IndexError LookupError
ZeroDivisionError ArithmeticError OverflowError RuntimeError NotImplementedError AttributeError StopIteration
NotImplemented property staticmethod classmethod super map""".split())
METHODS = set("""append clear copy count endswith extend find get index insert isalnum isalpha isdigit islower isspace
isupper items join keys ljust lower lstrip partition pop remove replace reverse rfind rjust rpartition rsplit rstrip
setdefault split splitlines startswith strip update upper values zfill bit_length add discard isascii rindex
removeprefix removesuffix popleft""".split())
DUNDERS = set("""__init__ __eq__ __len__ __repr__ __str__ __len__ __contains__ __add__ __sub__ __mul__ __neg__""".split())
NOT_USED = set("register mro elements open input law version_info with_traceback add_note".split())
NOT_IN_CODE = set("""type typing typing_extensions enum Enum IntEnum StrEnum Flag IntFlag Generic Protocol ABC ABCMeta
namedtuple NamedTuple TypedDict TYPE_CHECKING abstractmethod""".split())
FROM_LIBRARY = {"math": {"gcd", "lcm", "isqrt"}, "heapq": {"heappush", "heappop", "heapify"},
                "itertools": {"product", "combinations", "permutations", "chain", "pairwise", "accumulate"},
                "collections": {"deque", "defaultdict"}}
STATEMENTS = (ast.Assign, ast.AugAssign, ast.If, ast.While, ast.For, ast.Return, ast.Break, ast.Continue, ast.Pass,
              ast.Raise, ast.Assert, ast.Delete, ast.Try, ast.Expr, ast.FunctionDef, ast.ClassDef, ast.ImportFrom)
OWN_FILES = ["/".join(path.relative_to(ROOT / "fademodes").parts) for path in FILES]


def nodes(kind):
    """Return tuples (file and line, node) of all nodes of this kind."""
    return [(f"{path.name}:{getattr(node, 'lineno', 0)}", node)
            for path, tree in TREES for node in ast.walk(tree) if isinstance(node, kind)]


def words_of_code(path):
    """Return the names and strings of a file, docstrings and comments left out."""
    tree = ast.parse(path.read_text("utf-8"))
    docs = [node.body[0].value for node in ast.walk(tree)
            if isinstance(node, (ast.Module, ast.FunctionDef, ast.ClassDef)) and ast.get_docstring(node)]
    places = {(doc.lineno, doc.col_offset) for doc in docs}
    tokens = tokenize.generate_tokens(io.StringIO(path.read_text("utf-8")).readline)
    return [token.string for token in tokens
            if token.type in (tokenize.NAME, tokenize.STRING) and token.start not in places]


class Files(unittest.TestCase):
    def test_folder(self):
        for path in (ROOT / "fademodes").rglob("*"):
            if "__pycache__" not in path.parts:
                self.assertTrue(path.is_dir() or re.fullmatch(r"[a-z0-9_]+\.py", path.name), path)
        self.assertIn("__init__.py", OWN_FILES)

    def test_sizes_and_characters(self):
        for path in FILES:
            text = path.read_bytes()
            self.assertTrue(all(byte == 10 or 32 <= byte <= 126 for byte in text), path)
            lines = text.decode("ascii").split("\n")
            self.assertLessEqual(len(lines), 400, path)
            self.assertLessEqual(max(len(line) for line in lines), 120, path)
        for place, node in nodes(ast.FunctionDef):
            self.assertLessEqual(node.end_lineno - node.lineno + 1, 40, place)

    def test_no_warnings(self):
        with warnings.catch_warnings():
            warnings.simplefilter("error")
            for path in FILES:
                compile(path.read_text("ascii"), str(path), "exec")

    def test_words(self):
        for path in FILES:
            for text in words_of_code(path):
                found = set(re.findall(r"\w+", text))
                self.assertFalse(found & NOT_IN_CODE, (path, text))
                self.assertNotIn("%", text, path)
        for place, node in nodes((ast.Name, ast.Attribute, ast.arg, ast.keyword, ast.FunctionDef, ast.ClassDef)):
            for field in ("id", "attr", "arg", "name"):
                self.assertNotIn(getattr(node, field, None), NOT_USED, place)


class Imports(unittest.TestCase):
    def test_imports(self):
        defined = {path.stem: {node.name if not isinstance(node, ast.Assign) else node.targets[0].id
                               for node in tree.body if isinstance(node, (ast.FunctionDef, ast.ClassDef, ast.Assign))}
                   for path, tree in TREES}
        self.assertFalse(nodes(ast.Import))
        for place, node in nodes(ast.ImportFrom):
            names = {alias.name for alias in node.names}
            self.assertTrue(all(alias.asname is None for alias in node.names), place)
            if node.module in FROM_LIBRARY:
                self.assertLessEqual(names, FROM_LIBRARY[node.module], place)
            else:
                package, stem = node.module.split(".")
                self.assertEqual((node.level, package), (0, "fademodes"), place)
                self.assertLessEqual(names, defined[stem], place)

    def test_no_circles(self):
        leads = {path.stem: {node.module.split(".")[-1] for node in tree.body if isinstance(node, ast.ImportFrom)}
                 for path, tree in TREES}
        while leads:
            free = [stem for stem in leads if not leads[stem] & set(leads)]
            self.assertTrue(free, leads)
            for stem in free:
                del leads[stem]

    def test_all_imported_names_are_used(self):
        for path, tree in TREES:
            used = {node.id for node in ast.walk(tree) if isinstance(node, ast.Name)}
            imported = {alias.name for node in tree.body if isinstance(node, ast.ImportFrom) for alias in node.names}
            self.assertLessEqual(imported, used, path)


class Code(unittest.TestCase):
    def test_statements_and_expressions(self):
        for place, node in nodes(ast.stmt):
            self.assertIsInstance(node, STATEMENTS, place)
        self.assertFalse(nodes((ast.Div, ast.MatMult, ast.Set)))
        for place, node in nodes(ast.Constant):
            self.assertNotIsInstance(node.value, float, place)
        for place, node in nodes(ast.Compare):
            for sign, right in zip(node.ops, node.comparators):
                if isinstance(sign, (ast.Is, ast.IsNot)):
                    self.assertIn(getattr(right, "value", 0), (None, True, False), place)

    def test_module_level(self):
        for path, tree in TREES:
            self.assertTrue(ast.get_docstring(tree), path)
            for node in tree.body[1:]:
                self.assertIsInstance(node, (ast.ImportFrom, ast.FunctionDef, ast.ClassDef, ast.Assign), path)

    def test_names(self):
        # Examples that were run ahead of this leave the last value there.
        taken = set(dir(builtins)) - {"_"}
        for place, node in nodes((ast.Name, ast.arg, ast.FunctionDef, ast.ClassDef)):
            name = getattr(node, "id", getattr(node, "arg", getattr(node, "name", "")))
            if name.startswith("__"):
                self.assertIn(name, DUNDERS, place)
            if isinstance(node, ast.Name) and isinstance(node.ctx, ast.Load):
                self.assertTrue(name not in taken or name in BUILTINS, (place, name))
            else:
                self.assertNotIn(name, taken, place)

    def test_methods(self):
        own = {node.name for _, node in nodes(ast.FunctionDef)}
        for place, node in nodes(ast.Call):
            if isinstance(node.func, ast.Attribute):
                self.assertIn(node.func.attr, METHODS | own, place)
            if isinstance(node.func, ast.Name) and node.func.id in ("any", "all", "min", "max", "sum", "sorted"):
                self.assertFalse([part for part in node.args if isinstance(part, ast.GeneratorExp)], place)

    def test_one_meaning_for_each_name(self):
        methods = [node.name for _, found in nodes(ast.ClassDef) for node in found.body if isinstance(node, ast.FunctionDef)]
        stored = {node.attr for _, node in nodes(ast.Attribute) if isinstance(node.ctx, ast.Store)}
        self.assertFalse(stored & set(methods))
        generators = {node.name for _, node in nodes(ast.FunctionDef)
                      if any(isinstance(part, (ast.Yield, ast.YieldFrom)) for part in ast.walk(node))}
        for name in generators:
            self.assertEqual(len([node for _, node in nodes(ast.FunctionDef) if node.name == name]), 1, name)
        for path, tree in TREES:
            outer = {alias.name for node in tree.body if isinstance(node, ast.ImportFrom) for alias in node.names}
            outer |= {node.name for node in tree.body if isinstance(node, ast.ClassDef)} | generators
            inner = {node.id for node in ast.walk(tree) if isinstance(node, ast.Name) and isinstance(node.ctx, ast.Store)}
            inner |= {node.arg for node in ast.walk(tree) if isinstance(node, ast.arg)}
            self.assertFalse(outer & inner, path)

    def test_what_is_iterated_at_once(self):
        for place, node in nodes(ast.Assign):
            if isinstance(node.value, ast.Call) and isinstance(node.value.func, ast.Name):
                self.assertNotIn(node.value.func.id, ("zip", "enumerate", "reversed", "map", "iter"), place)
        self.assertFalse(nodes((ast.GeneratorExp, ast.NamedExpr, ast.Lambda, ast.With, ast.Global, ast.Nonlocal)))

    def test_decorators_and_errors(self):
        for place, node in nodes((ast.FunctionDef, ast.ClassDef)):
            for found in node.decorator_list:
                self.assertIn(ast.unparse(found).split(".")[-1], ("property", "classmethod", "staticmethod", "setter"))
        for place, node in nodes(ast.Raise):
            self.assertTrue(node.exc is None or isinstance(node.exc, ast.Call), place)
        for place, node in nodes(ast.ExceptHandler):
            self.assertIsNotNone(node.type, place)


if __name__ == "__main__":
    unittest.main()
