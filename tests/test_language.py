"""The rules of LANGUAGE.md that can be read off the text of the package."""

import ast
import builtins
import pathlib
import re
import unittest

FOLDER = pathlib.Path(__file__).resolve().parent.parent / "alikeruns"
NAME = "alikeruns"

LIBRARY = {"heapq": {"heappush", "heappop", "heapify", "heapreplace", "heappushpop"},
           "math": {"gcd", "lcm", "isqrt", "comb", "perm", "factorial"},
           "itertools": {"product", "combinations", "permutations", "chain", "accumulate", "pairwise", "islice",
                         "zip_longest"},
           "collections": {"defaultdict", "deque"}}

BUILTINS = set("""len range enumerate zip min max sum abs sorted reversed int str bool list tuple dict set isinstance
    ord repr any all divmod pow iter next map property staticmethod classmethod super type getattr hasattr setattr
    Exception ValueError TypeError KeyError IndexError LookupError ZeroDivisionError ArithmeticError OverflowError
    RuntimeError NotImplementedError AttributeError StopIteration NotImplemented""".split())

METHODS = set("""append clear copy count endswith extend find get index insert isalnum isalpha isdigit islower isspace
    isupper items join keys ljust lower lstrip partition pop remove replace reverse rfind rjust rpartition rsplit
    rstrip setdefault split splitlines startswith strip update upper values zfill bit_length add discard sort title
    capitalize swapcase casefold center expandtabs removeprefix removesuffix rindex isascii isdecimal isnumeric
    istitle isidentifier isprintable format""".split())

DOUBLE = {"__init__", "__eq__", "__repr__", "__str__", "__len__"}

BARRED_NAMES = {"mro", "elements", "open", "input", "law", "version_info", "with_traceback", "add_note", "register",
                "eval", "exec", "compile", "globals", "locals", "dir", "vars", "os", "sys", "gc", "exit", "help"}

BARRED_WORDS = re.compile(r"\b(type|typing|enum|Enum|IntEnum|StrEnum|Flag|Generic|Protocol|ABC|namedtuple|NamedTuple|"
                          r"TypedDict|abstractmethod)\b|dataclass|overload|contextmanager|_wall|_WallAttr")

BARRED_ATTRIBUTES = set("""items keys values pop update append clear extend insert remove reverse setdefault sort args
    encode decode hex fromhex format""".split())

VIEWS = {"zip", "enumerate", "reversed", "range", "items", "keys", "values"}

TAKERS = {"list", "tuple", "dict", "sorted", "sum", "any", "all", "enumerate", "zip", "min", "max"}

STATEMENTS = (ast.Assign, ast.AugAssign, ast.If, ast.While, ast.For, ast.Return, ast.Break, ast.Continue, ast.Pass,
              ast.Raise, ast.Assert, ast.Delete, ast.Nonlocal, ast.Match, ast.Try, ast.Expr, ast.FunctionDef,
              ast.ClassDef, ast.ImportFrom)


def files():
    return sorted(path for path in FOLDER.rglob("*") if "__pycache__" not in path.parts)


def trees():
    return {path: ast.parse(path.read_text()) for path in files() if path.suffix == ".py"}


def nodes(kind):
    """Every node of a kind, with a place to tell."""
    for path, tree in trees().items():
        for node in ast.walk(tree):
            if isinstance(node, kind):
                yield node, f"{path.name}:{getattr(node, 'lineno', 0)}"


def docstrings(tree):
    found = set()
    for node in ast.walk(tree):
        if isinstance(node, (ast.Module, ast.ClassDef, ast.FunctionDef)) and ast.get_docstring(node) is not None:
            found.add(id(node.body[0].value))
    return found


class Language(unittest.TestCase):

    def test_files(self):
        self.assertLessEqual(len(files()), 100)
        for path in files():
            self.assertEqual(path.suffix, ".py", path)
            self.assertRegex(path.stem, r"^(__init__|__main__|[a-z][a-z0-9_]*)$")
            self.assertNotIn(path.stem, dir(builtins))
        self.assertTrue((FOLDER / "__init__.py").is_file())

    def test_sizes_and_characters(self):
        for path in files():
            text = path.read_text()
            self.assertIsNone(re.search(r"[^ -~\n]", text), path)
            self.assertLessEqual(len(text.splitlines()), 399, path)
            for line in text.splitlines():
                self.assertLessEqual(len(line), 120, path)
        for node, place in nodes(ast.FunctionDef):
            self.assertLessEqual(node.end_lineno - node.lineno + 1, 40, place)

    def test_imports(self):
        leads_to = {}
        for path, tree in trees().items():
            imported = set()
            for node in ast.walk(tree):
                self.assertNotIsInstance(node, ast.Import, path)
                if isinstance(node, ast.ImportFrom):
                    self.assertIn(node, tree.body, path)
                    self.check_import(node, path)
                    imported.add(node.module.partition(".")[2])
            leads_to[path.stem] = imported - {""}
        for stem in leads_to:
            self.assertNotIn(stem, self.reached(leads_to, stem))

    def check_import(self, node, path):
        self.assertEqual(node.level, 0, path)
        if node.module in LIBRARY:
            names = LIBRARY[node.module]
        else:
            self.assertTrue(node.module.startswith(NAME + "."), path)
            body = ast.parse((FOLDER / (node.module.split(".")[1] + ".py")).read_text()).body
            names = {x.name for x in body if isinstance(x, (ast.FunctionDef, ast.ClassDef))}
            names |= {target.id for x in body if isinstance(x, ast.Assign) for target in x.targets}
        for name in node.names:
            self.assertIn(name.name, names, path)
            self.assertFalse(name.asname and node.module in LIBRARY, path)

    def reached(self, leads_to, stem):
        found, waiting = set(), [stem]
        while waiting:
            for other in leads_to.get(waiting.pop(), ()):
                if other not in found:
                    found.add(other)
                    waiting.append(other)
        return found

    def test_imported_names_are_used(self):
        for path, tree in trees().items():
            used = {node.id for node in ast.walk(tree) if isinstance(node, ast.Name)}
            for node in tree.body:
                if isinstance(node, ast.ImportFrom):
                    for name in node.names:
                        self.assertIn(name.asname or name.name, used, path)

    def test_module_level(self):
        for path, tree in trees().items():
            for node in tree.body:
                plain = isinstance(node, ast.Expr) and isinstance(node.value, ast.Constant)
                kinds = (ast.ImportFrom, ast.FunctionDef, ast.ClassDef, ast.Assign)
                self.assertTrue(plain or isinstance(node, kinds), f"{path.name}:{node.lineno}")

    def test_statements(self):
        for node, place in nodes(ast.stmt):
            self.assertIsInstance(node, STATEMENTS, place)
        for node, place in nodes((ast.FunctionDef, ast.ClassDef)):
            for decorator in node.decorator_list:
                self.assertIn(ast.unparse(decorator), ("property", "staticmethod", "classmethod"), place)
        for node, place in nodes(ast.ExceptHandler):
            self.assertIsNotNone(node.type, place)

    def test_annotations(self):
        for node, place in nodes(ast.FunctionDef):
            self.assertIsNone(node.returns, place)
        for node, place in nodes(ast.arg):
            self.assertIsNone(node.annotation, place)

    def test_expressions(self):
        barred = (ast.GeneratorExp, ast.Await, ast.AsyncFunctionDef, ast.Div, ast.MatMult)
        for node, place in nodes(barred):
            self.fail(f"{place} {node}")
        for node, place in nodes(ast.Constant):
            self.assertNotIsInstance(node.value, (float, complex, bytes), place)
        for node, place in nodes(ast.BinOp):
            if isinstance(node.op, ast.Pow):
                self.assertIsInstance(node.right, ast.Constant, place)
        for node, place in nodes(ast.Compare):
            for operator, right in zip(node.ops, node.comparators):
                if isinstance(operator, (ast.Is, ast.IsNot)):
                    self.assertIn(ast.unparse(right), ("None", "True", "False"), place)
        for node, place in nodes(ast.Set):
            self.assertLessEqual(len(node.elts), 2, place)

    def test_names(self):
        known = set(dir(builtins))
        for path, tree in trees().items():
            bound = {node.name for node in ast.walk(tree) if isinstance(node, (ast.FunctionDef, ast.ClassDef))}
            bound |= {node.id for node in ast.walk(tree)
                      if isinstance(node, ast.Name) and isinstance(node.ctx, ast.Store)}
            bound |= {node.arg for node in ast.walk(tree) if isinstance(node, ast.arg)}
            for name in bound - DOUBLE:
                self.assertRegex(name, r"^(_|_?[A-Za-z][A-Za-z0-9_]*)$", path)
                self.assertNotIn(name, known, path)
                self.assertNotIn(name, BARRED_NAMES, path)
            for node in ast.walk(tree):
                if isinstance(node, ast.Name) and isinstance(node.ctx, ast.Load):
                    self.assertNotEqual(node.id, "_", f"{path.name}:{node.lineno}")
                    if node.id in known:
                        self.assertIn(node.id, BUILTINS, f"{path.name}:{node.lineno}")

    def test_names_of_classes(self):
        for node, place in nodes(ast.ClassDef):
            self.assertRegex(node.name, r"^[A-Za-z]", place)

    def test_tables_of_functions_are_called_by_a_name(self):
        for node, place in nodes(ast.Call):
            self.assertNotIsInstance(node.func, (ast.Subscript, ast.Call, ast.Lambda), place)

    def test_locals_do_not_have_the_names_of_imports_and_classes(self):
        for path, tree in trees().items():
            top = {name.asname or name.name for node in tree.body if isinstance(node, ast.ImportFrom)
                   for name in node.names}
            top |= {node.name for node in tree.body if isinstance(node, ast.ClassDef)}
            for function in [node for node in ast.walk(tree) if isinstance(node, ast.FunctionDef)]:
                for node in ast.walk(function):
                    if isinstance(node, ast.Name) and isinstance(node.ctx, ast.Store):
                        self.assertNotIn(node.id, top, f"{path.name}:{node.lineno}")
                    if isinstance(node, ast.arg):
                        self.assertNotIn(node.arg, top, f"{path.name}:{node.lineno}")

    def test_methods_and_attributes(self):
        own = {node.name for node, _ in nodes(ast.FunctionDef)}
        assigned = {node.attr for node, _ in nodes(ast.Attribute) if isinstance(node.ctx, ast.Store)}
        for node, place in nodes(ast.Attribute):
            self.assertNotIn(node.attr, BARRED_NAMES, place)
            self.assertIn(node.attr, own | assigned | METHODS, place)
        for node, place in nodes(ast.ClassDef):
            for inner in node.body:
                if isinstance(inner, ast.FunctionDef) and inner.name.startswith("__"):
                    self.assertIn(inner.name, DOUBLE, place)

    def test_attributes_are_no_methods(self):
        for node, place in nodes(ast.Attribute):
            if isinstance(node.ctx, ast.Store):
                self.assertNotIn(node.attr, BARRED_ATTRIBUTES, place)
        for node, place in nodes(ast.ClassDef):
            methods = [inner.name for inner in node.body if isinstance(inner, ast.FunctionDef)]
            self.assertEqual(len(methods), len(set(methods)), place)
            for inner in ast.walk(node):
                if isinstance(inner, ast.Attribute) and isinstance(inner.ctx, ast.Store):
                    self.assertNotIn(inner.attr, methods, place)

    def test_zips_ranges_and_views_are_iterated_at_once(self):
        for tree in trees().values():
            above = {id(child): node for node in ast.walk(tree) for child in ast.iter_child_nodes(node)}
            for node in ast.walk(tree):
                if isinstance(node, ast.Call) and getattr(node.func, "id", getattr(node.func, "attr", "")) in VIEWS:
                    self.assertTrue(self.iterated(node, above[id(node)]), ast.unparse(above[id(node)]))

    def iterated(self, node, parent):
        if isinstance(parent, (ast.For, ast.comprehension)):
            return node is parent.iter
        if isinstance(parent, ast.Call):
            taker = getattr(parent.func, "id", "")
            return taker in TAKERS or taker == "len" and node.func.id == "range"
        kept = isinstance(parent, ast.Assign) and len(parent.targets) == 1 and isinstance(parent.targets[0], ast.Name)
        return kept and getattr(node.func, "id", "") == "range"

    def test_words_and_strings(self):
        for path, tree in trees().items():
            told = docstrings(tree)
            for node in ast.walk(tree):
                if isinstance(node, ast.Constant) and isinstance(node.value, str) and id(node) not in told:
                    self.assertNotIn("%", node.value, f"{path.name}:{node.lineno}")
                    self.assertIsNone(BARRED_WORDS.search(node.value), f"{path.name}:{node.lineno}")
                if isinstance(node, ast.Name):
                    self.assertIsNone(BARRED_WORDS.search(node.id), f"{path.name}:{node.lineno}")

    def test_sets_stay_in_their_functions(self):
        for node, place in nodes((ast.Return, ast.Dict, ast.List, ast.Tuple)):
            for child in ast.iter_child_nodes(node):
                self.assertNotIsInstance(child, (ast.Set, ast.SetComp), place)
        for function, place in nodes(ast.FunctionDef):
            kept = {node.targets[0].id for node in ast.walk(function) if isinstance(node, ast.Assign)
                    and (isinstance(node.value, (ast.Set, ast.SetComp)) or ast.unparse(node.value).startswith("set("))}
            for node in ast.walk(function):
                if isinstance(node, ast.Call) and getattr(node.func, "id", "") not in ("len", "sorted"):
                    for passed in node.args:
                        self.assertNotIn(getattr(passed, "id", ""), kept, place)
                if isinstance(node, ast.Return):
                    self.assertNotIn(getattr(node.value, "id", ""), kept, place)

    def test_sets_are_not_iterated(self):
        for node, place in nodes((ast.For, ast.comprehension)):
            text = ast.unparse(node.iter)
            self.assertFalse(isinstance(node.iter, (ast.Set, ast.SetComp)) or text.startswith("set("), place)


if __name__ == "__main__":
    unittest.main()
