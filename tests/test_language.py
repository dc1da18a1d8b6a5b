"""The rules of the language that the program is written in, as far as its text alone tells of them."""

import ast
import builtins
import re
import unittest
from pathlib import Path

PACKAGE = Path(__file__).resolve().parent.parent / "rowsintime"

BUILTINS = set("""len range enumerate zip min max sum abs sorted reversed int str bool bytes list tuple dict set frozenset
    isinstance ord repr any all divmod pow getattr hasattr setattr iter next map type super Exception ValueError TypeError
    KeyError IndexError LookupError ZeroDivisionError ArithmeticError OverflowError RuntimeError NotImplementedError
    AttributeError StopIteration NotImplemented property staticmethod classmethod""".split())

BUILTIN_METHODS = set("""append clear copy count endswith extend find get index insert isalnum isalpha isdigit islower
    isspace isupper items join keys ljust lower lstrip partition pop remove replace reverse rfind rjust rpartition rsplit
    rstrip setdefault split splitlines startswith strip update upper values zfill bit_length add discard""".split())

LIBRARY = {"heapq": ["heappush", "heappop", "heapify", "heapreplace", "heappushpop"],
           "math": ["gcd", "lcm", "isqrt", "comb", "perm", "factorial"],
           "itertools": ["product", "combinations", "permutations", "chain", "accumulate", "pairwise", "islice",
                         "zip_longest"],
           "collections": ["defaultdict", "deque"]}

DOUBLE = set("""__init__ __eq__ __repr__ __str__ __len__ __contains__ __and__ __or__ __sub__ __xor__ __invert__ __lt__
    __le__ __gt__ __ge__ __ne__ __add__ __mul__ __iter__ __call__ __bool__ __neg__ __enter__ __exit__""".split())

BARRED_WORDS = """typing typing_extensions enum Enum IntEnum StrEnum Flag IntFlag Generic Protocol ABC ABCMeta namedtuple
    NamedTuple TypedDict TYPE_CHECKING abstractmethod dataclass overload contextmanager""".split()

BARRED_NAMES = set("""register mro elements open input law version_info with_traceback add_note attrgetter breakpoint
    builtins compile copyright credits delattr dir eval exec exit gc globals help id importlib license locals
    methodcaller os quit vars sys""".split())


def files():
    return sorted(PACKAGE.rglob("*.py"))


def tree_of(path):
    return ast.parse(path.read_text(encoding="utf-8"))


def functions_of(tree):
    return [node for node in ast.walk(tree) if isinstance(node, ast.FunctionDef)]


def imports_of(tree):
    return {name.name: node.module for node in tree.body if isinstance(node, ast.ImportFrom) for name in node.names}


def bound_names(tree):
    """All names that parameters, assignments, loops and functions bind."""
    found = [node.arg for node in ast.walk(tree) if isinstance(node, ast.arg)]
    found += [node.id for node in ast.walk(tree) if isinstance(node, ast.Name) and not isinstance(node.ctx, ast.Load)]
    return found


class LanguageTest(unittest.TestCase):
    def test_the_folder_has_python_files_alone(self):
        found = [path for path in PACKAGE.rglob("*") if "__pycache__" not in path.parts and path.is_file()]
        self.assertEqual(sorted(found), files())
        self.assertIn(PACKAGE / "__init__.py", files())

    def test_sizes_and_characters(self):
        for path in files():
            lines = path.read_text(encoding="utf-8").split("\n")
            self.assertLessEqual(len(lines), 399, path)
            for line in lines:
                self.assertLessEqual(len(line), 120, path)
                self.assertRegex(line, "^[ -~]*$")
            for node in functions_of(tree_of(path)):
                self.assertLessEqual(node.end_lineno - node.lineno + 1, 40, (path, node.name))

    def test_imports(self):
        for path in files():
            for node in ast.walk(tree_of(path)):
                self.assertNotIsInstance(node, ast.Import)
                if isinstance(node, ast.ImportFrom):
                    self.assertEqual(node.level, 0)
                    for name in node.names:
                        self.assertIsNone(name.asname)
                        if node.module in LIBRARY:
                            self.assertIn(name.name, LIBRARY[node.module])
                        else:
                            self.assertIn(name.name, self.defined_in(node.module), path)

    def defined_in(self, module):
        package, name = module.split(".")
        self.assertEqual(package, PACKAGE.name)
        body = tree_of(PACKAGE / (name + ".py")).body
        found = [node.name for node in body if isinstance(node, (ast.FunctionDef, ast.ClassDef))]
        return found + [target.id for node in body if isinstance(node, ast.Assign) for target in node.targets]

    def test_no_two_files_import_from_each_other(self):
        needs = {path.stem: {module.split(".")[1] for module in imports_of(tree_of(path)).values() if "." in module}
                 for path in files()}
        while needs:
            free = [name for name in needs if not needs[name] & set(needs)]
            self.assertTrue(free, needs)
            needs = {name: needs[name] for name in needs if name not in free}

    def test_module_level(self):
        kinds = (ast.ImportFrom, ast.FunctionDef, ast.ClassDef, ast.Assign)
        for path in files():
            for at, node in enumerate(tree_of(path).body):
                if at == 0 and isinstance(node, ast.Expr):
                    self.assertIsInstance(node.value.value, str)
                    continue
                self.assertIsInstance(node, kinds, path)

    def test_what_does_not_stand(self):
        barred = (ast.GeneratorExp, ast.Div, ast.AsyncFunctionDef, ast.Await, ast.Global)
        for path in files():
            for node in ast.walk(tree_of(path)):
                self.assertNotIsInstance(node, barred, (path, getattr(node, "lineno", None)))
                if isinstance(node, ast.Constant):
                    self.assertNotIsInstance(node.value, (float, complex))
                    self.assertFalse(isinstance(node.value, str) and "__" in node.value, path)
                if isinstance(node, ast.Compare) and any(isinstance(op, (ast.Is, ast.IsNot)) for op in node.ops):
                    self.assertIn(ast.unparse(node.comparators[0]), ("None", "True", "False"))

    def test_names(self):
        for path in files():
            tree = tree_of(path)
            classes = [node.name for node in tree.body if isinstance(node, ast.ClassDef)]
            taken = set(dir(builtins)) | set(imports_of(tree)) | set(classes) | BARRED_NAMES
            functions = [node.name for node in tree.body if isinstance(node, ast.FunctionDef)]
            for name in bound_names(tree) + functions:
                self.assertNotIn(name, taken, path)
                self.assertRegex(name, "^(_|_?[A-Za-z][A-Za-z0-9_]*)$")
            for name in bound_names(tree):
                self.assertNotIn(name, functions, path)
            for node in functions_of(tree):
                if node.name.startswith("__"):
                    self.assertIn(node.name, DOUBLE)

    def test_builtins_and_methods(self):
        methods = {node.name for path in files() for node in functions_of(tree_of(path))}
        for path in files():
            for node in ast.walk(tree_of(path)):
                if isinstance(node, ast.Name) and hasattr(builtins, node.id):
                    self.assertIn(node.id, BUILTINS, path)
                if isinstance(node, ast.Call) and isinstance(node.func, ast.Attribute):
                    self.assertIn(node.func.attr, methods | BUILTIN_METHODS, path)

    def test_words(self):
        for path in files():
            text = path.read_text(encoding="utf-8")
            for word in BARRED_WORDS:
                self.assertIsNone(re.search(r"\b" + word + r"\b", text), (path, word))


if __name__ == "__main__":
    unittest.main()
