"""The form of the package's code, as far as a few plain looks at it tell; and that it uses no
clock, no random numbers and no files (point 1)."""

import ast
import builtins
import pathlib
import unittest

PACKAGE = pathlib.Path(__file__).resolve().parent.parent / "matedsquares"
LIBRARY = {
    "math": {"gcd", "lcm", "isqrt", "comb", "perm", "factorial"},
    "heapq": {"heappush", "heappop", "heapify"},
    "itertools": {"product", "combinations", "permutations", "chain", "accumulate", "pairwise"},
    "collections": {"defaultdict", "deque"},
}
BUILTINS = set(
    "len range enumerate zip min max sum abs sorted reversed int str bool list tuple dict set "
    "isinstance ord repr any all divmod iter next map Exception ValueError TypeError KeyError "
    "IndexError LookupError ZeroDivisionError NotImplemented True False None".split())
METHODS = set(
    "append clear copy count endswith extend find get index insert isalnum isalpha isdigit islower "
    "isspace isupper items join keys ljust lower lstrip partition pop remove replace reverse rfind "
    "rjust rpartition rsplit rstrip setdefault split splitlines startswith strip update upper "
    "values zfill bit_length isascii add discard sort".split())
BARRED = set("register mro elements open input law exit eval exec compile globals locals vars".split())
NOWHERE = set(
    "register mro elements open input law version_info with_traceback add_note format format_map".split())
WORDS = set(
    "type typing typing_extensions enum Enum IntEnum StrEnum Flag IntFlag Generic Protocol ABC ABCMeta "
    "namedtuple NamedTuple TypedDict TYPE_CHECKING abstractmethod dataclass overload contextmanager".split())
STATEMENTS = (
    ast.AsyncFunctionDef, ast.Global, ast.Set, ast.Await, ast.YieldFrom, ast.Import, ast.Div)


def package_files():
    return sorted(PACKAGE.glob("**/*.py"))


def tree_of(path):
    return ast.parse(path.read_text())


def bound_names(function):
    """The parameters and the local variables of a function."""
    found = [argument.arg for argument in ast.walk(function) if isinstance(argument, ast.arg)]
    found += [node.id for node in ast.walk(function)
              if isinstance(node, ast.Name) and isinstance(node.ctx, ast.Store)]
    return found


class FormTest(unittest.TestCase):
    def nodes(self, *kinds):
        for path in package_files():
            for node in ast.walk(tree_of(path)):
                if isinstance(node, kinds):
                    yield path.name, node

    def test_files(self):
        for path in PACKAGE.iterdir():
            self.assertTrue(path.suffix == ".py" or path.name == "__pycache__", path)
        self.assertEqual((PACKAGE / "__init__.py").read_text(), "")

    def test_lines(self):
        for path in package_files():
            text = path.read_text()
            lines = text.split("\n")
            self.assertLessEqual(len(lines), 400, path)
            self.assertTrue(all(c == "\n" or " " <= c <= "~" for c in text), path)
            self.assertLessEqual(max(map(len, lines)), 120, path)

    def test_functions_are_small_and_bare(self):
        for name, node in self.nodes(ast.FunctionDef):
            self.assertLessEqual(node.end_lineno - node.lineno + 1, 40, (name, node.name))
            self.assertEqual(node.decorator_list, [], (name, node.name))

    def test_imports(self):
        for name, node in self.nodes(ast.ImportFrom):
            self.assertEqual(node.level, 0, name)
            wanted = {alias.name for alias in node.names}
            self.assertTrue(all(alias.asname is None for alias in node.names), name)
            if node.module.startswith("matedsquares."):
                path = PACKAGE / (node.module.split(".")[1] + ".py")
                defined = set()
                for line in tree_of(path).body:
                    if isinstance(line, (ast.FunctionDef, ast.ClassDef)):
                        defined.add(line.name)
                    elif isinstance(line, ast.Assign):
                        defined.add(line.targets[0].id)
                self.assertLessEqual(wanted, defined, name)
            else:
                self.assertLessEqual(wanted, LIBRARY[node.module], name)

    def test_no_other_statements_or_signs(self):
        for name, node in self.nodes(*STATEMENTS):
            self.fail((name, ast.dump(node)))
        for name, node in self.nodes(ast.Constant):
            self.assertIsInstance(node.value, (int, str, type(None)), name)
        for name, node in self.nodes(ast.BinOp):
            if isinstance(node.op, ast.Pow):
                self.assertTrue(isinstance(node.right, ast.Constant), name)

    def test_names(self):
        for path in package_files():
            tree = tree_of(path)
            imported = {alias.name for node in ast.walk(tree) if isinstance(node, ast.ImportFrom)
                        for alias in node.names}
            for node in ast.walk(tree):
                if isinstance(node, ast.FunctionDef):
                    for bound in bound_names(node):
                        self.assertNotIn(bound, imported | BARRED, (path.name, node.name))
                        self.assertFalse(hasattr(builtins, bound), (path.name, node.name, bound))
                if isinstance(node, ast.Name) and hasattr(builtins, node.id):
                    self.assertIn(node.id, BUILTINS, path.name)

    def test_words_that_are_used_nowhere(self):
        for name, node in self.nodes(ast.AST):
            for field in ("id", "attr", "arg", "name"):
                word = getattr(node, field, None)
                self.assertNotIn(word, NOWHERE | WORDS, name)
                self.assertFalse(isinstance(word, str) and word.startswith("__") and word != "__init__")
            if isinstance(node, ast.Constant) and isinstance(node.value, str):
                self.assertNotIn(chr(37), node.value)

    def test_methods_and_attributes_are_apart(self):
        methods = {own.name for _, node in self.nodes(ast.ClassDef) for own in node.body
                   if isinstance(own, ast.FunctionDef)}
        for name, node in self.nodes(ast.Attribute):
            if isinstance(node.ctx, ast.Store):
                self.assertNotIn(node.attr, methods, name)
                self.assertNotIn(node.attr, METHODS, name)

    def test_no_import_goes_in_a_circle(self):
        imports = {}
        for name, node in self.nodes(ast.ImportFrom):
            imports.setdefault(name[:-3], set()).add(node.module.split(".")[-1])
        done = set()
        while len(done) < len(imports):
            free = {name for name in imports if not imports[name] & set(imports) - done} - done
            self.assertTrue(free, imports)
            done |= free

    def test_methods(self):
        own = {node.name for _, node in self.nodes(ast.FunctionDef)}
        for name, node in self.nodes(ast.Call):
            if isinstance(node.func, ast.Attribute):
                self.assertIn(node.func.attr, METHODS | own, name)

    def test_module_level(self):
        for path in package_files():
            for line in tree_of(path).body:
                if isinstance(line, ast.Expr):
                    self.assertIsInstance(line.value, ast.Constant, path.name)
                else:
                    self.assertIsInstance(
                        line, (ast.ImportFrom, ast.FunctionDef, ast.ClassDef, ast.Assign), path.name)


if __name__ == "__main__":
    unittest.main()
