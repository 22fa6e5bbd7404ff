"""The form of the code: the rules on files, names, imports and signs that a look at the code can tell."""

import ast
import builtins
import pathlib
import unittest

FOLDER = pathlib.Path(__file__).resolve().parent.parent / "dicewins"
LIBRARY = {"math": {"gcd", "lcm", "isqrt", "comb", "perm", "factorial"}}
BUILTINS = set(
    "len range enumerate zip min max sum abs sorted reversed int str bool bytes list tuple dict set isinstance ord repr"
    " any all divmod Exception ValueError TypeError KeyError IndexError LookupError ZeroDivisionError NotImplemented"
    .split()
)
METHODS = set(
    "append clear copy count endswith extend find get index insert isalnum isalpha isdigit islower isspace isupper"
    " items join keys ljust lower lstrip partition pop remove replace reverse rfind rjust rpartition rsplit rstrip"
    " setdefault split splitlines startswith strip update upper values zfill bit_length isascii isdecimal".split()
)
STATEMENTS = (
    ast.FunctionDef, ast.ClassDef, ast.Return, ast.Assign, ast.AugAssign, ast.For, ast.While, ast.If, ast.Raise, ast.Try,
    ast.Expr, ast.Pass, ast.Break, ast.Continue, ast.ImportFrom, ast.Delete, ast.Assert, ast.With,
)
FORBIDDEN_NODES = (
    ast.Div, ast.GeneratorExp, ast.Lambda, ast.Global, ast.Await, ast.YieldFrom, ast.AnnAssign, ast.Import,
)
DOUBLE = {
    "__init__", "__eq__", "__repr__", "__str__", "__len__", "__iter__", "__add__", "__sub__", "__mul__", "__neg__",
    "__invert__", "__contains__", "__getitem__", "__call__", "__enter__", "__exit__",
}
FORBIDDEN_WORDS = set(
    "type typing enum Enum Flag Generic Protocol ABC namedtuple NamedTuple register mro elements input law eval exec"
    " compile globals locals vars dir getattr setattr hasattr delattr super open".split()
)
ITERATED = {"zip", "enumerate", "reversed", "range"}
TAKERS = {"list", "tuple", "dict", "sorted", "sum", "any", "all", "enumerate", "zip", "min", "max", "len"}
GENERATORS = {"turns", "rounds", "leads_on"}


def read_files():
    """Name, text and tree of each file of the package."""
    for path in sorted(FOLDER.glob("*.py")):
        text = path.read_text(encoding="utf-8")
        yield path.stem, text, ast.parse(text)


def called_name(node):
    """The bare name that is called, or None."""
    if isinstance(node, ast.Call) and isinstance(node.func, ast.Name):
        return node.func.id
    return None


def bound_names(tree):
    """All names of parameters and local variables, with their lines."""
    for node in ast.walk(tree):
        if isinstance(node, ast.arg):
            yield node.arg, node.lineno
        elif isinstance(node, ast.Name) and isinstance(node.ctx, ast.Store):
            yield node.id, node.lineno
        elif isinstance(node, ast.ExceptHandler) and node.name:
            yield node.name, node.lineno


def top_names(tree):
    """The names of the functions and classes of a file."""
    return [node.name for node in tree.body if isinstance(node, (ast.FunctionDef, ast.ClassDef))]


def imports_of(tree):
    """All imports of a file."""
    return [node for node in tree.body if isinstance(node, ast.ImportFrom)]


class FileTest(unittest.TestCase):
    def test_nothing_but_python_files(self):
        for path in FOLDER.iterdir():
            if path.name != "__pycache__":
                self.assertRegex(path.name, r"^[a-z_]+\.py$")

    def test_sizes_and_characters(self):
        for name, text, tree in read_files():
            lines = text.split("\n")
            self.assertLessEqual(len(lines), 399, name)
            for number, line in enumerate(lines, 1):
                self.assertLessEqual(len(line), 120, (name, number))
                self.assertTrue(all(" " <= letter <= "~" for letter in line), (name, number))
            for node in ast.walk(tree):
                if isinstance(node, ast.FunctionDef):
                    self.assertLessEqual(node.end_lineno - node.lineno + 1, 40, (name, node.name))

    def test_docstrings(self):
        for name, _, tree in read_files():
            self.assertTrue(ast.get_docstring(tree), name)
            for node in tree.body:
                if isinstance(node, (ast.FunctionDef, ast.ClassDef)):
                    self.assertTrue(ast.get_docstring(node), (name, node.name))


class ImportTest(unittest.TestCase):
    def test_sources(self):
        defined = {name: set(top_names(tree)) for name, _, tree in read_files()}
        for name, _, tree in read_files():
            for node in imports_of(tree):
                self.assertEqual(node.level, 0, name)
                for taken in node.names:
                    self.assertIsNone(taken.asname, (name, node.lineno))
                    if node.module in LIBRARY:
                        self.assertIn(taken.name, LIBRARY[node.module], (name, node.lineno))
                    else:
                        package, _, source = node.module.partition(".")
                        self.assertEqual(package, "dicewins", (name, node.lineno))
                        self.assertIn(taken.name, defined[source], (name, node.lineno))

    def test_all_are_used_and_bound_once(self):
        for name, _, tree in read_files():
            taken = [entry.name for node in imports_of(tree) for entry in node.names]
            used = {node.id for node in ast.walk(tree) if isinstance(node, ast.Name)}
            self.assertEqual(set(taken) - used, set(), name)
            bound = taken + top_names(tree)
            self.assertEqual(len(bound), len(set(bound)), name)

    def test_no_circles(self):
        sources = {
            name: {node.module.partition(".")[2] for node in imports_of(tree) if node.module not in LIBRARY}
            for name, _, tree in read_files()
        }
        while sources:
            ready = {name for name, needed in sources.items() if not needed & set(sources)}
            self.assertTrue(ready, sources)
            sources = {name: needed for name, needed in sources.items() if name not in ready}


class NameTest(unittest.TestCase):
    def test_no_name_has_another_meaning(self):
        for name, _, tree in read_files():
            taken = {entry.name for node in imports_of(tree) for entry in node.names}
            taken |= {node.name for node in tree.body if isinstance(node, ast.ClassDef)}
            for bound, line in bound_names(tree):
                self.assertNotIn(bound, taken, (name, line))
                # the name _ is there in some interpreters
                self.assertFalse(bound != "_" and hasattr(builtins, bound), (name, line, bound))
                self.assertNotIn(bound, FORBIDDEN_WORDS, (name, line))
                self.assertRegex(bound, r"^([a-zA-Z][a-zA-Z0-9_]*|_[a-z][a-z0-9_]*|_)$")
            for node in ast.walk(tree):
                if isinstance(node, ast.FunctionDef):
                    self.assertNotIn(node.name, FORBIDDEN_WORDS, name)
                    if node.name.startswith("__"):
                        self.assertIn(node.name, DOUBLE, name)
                    else:
                        self.assertFalse(hasattr(builtins, node.name), (name, node.name))

    def test_no_call_is_unknown(self):
        for name, _, tree in read_files():
            known = {entry.name for node in imports_of(tree) for entry in node.names} | set(top_names(tree)) | BUILTINS
            for node in ast.walk(tree):
                if isinstance(node, ast.Call) and isinstance(node.func, ast.Name):
                    self.assertIn(node.func.id, known | {"cls", "iter"}, (name, node.lineno))

    def test_methods_of_values(self):
        own = {
            node.name for _, _, tree in read_files() for node in ast.walk(tree) if isinstance(node, ast.FunctionDef)
        }
        for name, _, tree in read_files():
            for node in ast.walk(tree):
                if isinstance(node, ast.Call) and isinstance(node.func, ast.Attribute):
                    self.assertIn(node.func.attr, METHODS | own, (name, node.lineno))
                    # a class of the package has both == and a length
                    self.assertNotEqual(node.func.attr, "sort", (name, node.lineno))


class SignTest(unittest.TestCase):
    def test_statements_and_nodes(self):
        for name, _, tree in read_files():
            for node in ast.walk(tree):
                if isinstance(node, ast.stmt):
                    self.assertIsInstance(node, STATEMENTS, (name, node.lineno))
                self.assertNotIsInstance(node, FORBIDDEN_NODES, (name, getattr(node, "lineno", 0)))

    def test_module_level(self):
        for name, _, tree in read_files():
            for place, node in enumerate(tree.body):
                fitting = isinstance(node, (ast.ImportFrom, ast.FunctionDef, ast.ClassDef))
                # a table of plain values may stand there, too
                table = isinstance(node, ast.Assign) and isinstance(ast.literal_eval(node.value), dict)
                self.assertTrue(fitting or table or place == 0, (name, node.lineno))

    def test_decorators(self):
        for name, _, tree in read_files():
            for node in ast.walk(tree):
                if isinstance(node, ast.FunctionDef):
                    for entry in node.decorator_list:
                        fitting = ("property", "staticmethod", "classmethod", f"{node.name}.setter")
                        self.assertIn(ast.unparse(entry), fitting, (name, node.name))

    def test_is_and_exponents_and_texts(self):
        for name, _, tree in read_files():
            for node in ast.walk(tree):
                if isinstance(node, ast.Compare):
                    for sign, side in zip(node.ops, node.comparators):
                        if isinstance(sign, (ast.Is, ast.IsNot)):
                            self.assertIn(getattr(side, "value", 0), (None, True, False), (name, node.lineno))
                if isinstance(node, ast.BinOp) and isinstance(node.op, ast.Pow):
                    self.assertIsInstance(node.right, ast.Constant, (name, node.lineno))
                if isinstance(node, ast.Constant):
                    self.assertNotIsInstance(node.value, (float, complex), (name, node.lineno))
                    if isinstance(node.value, str):
                        self.assertNotIn("%", node.value, (name, node.lineno))

    def test_stars(self):
        for name, _, tree in read_files():
            for node in ast.walk(tree):
                if isinstance(node, ast.Starred):
                    self.assertIsInstance(node.value, (ast.Name, ast.List, ast.Tuple), (name, node.lineno))

    def test_raised_and_caught_errors(self):
        own = {node.name for stem, _, tree in read_files() if stem == "errors" for node in tree.body[1:]}
        for name, _, tree in read_files():
            for node in ast.walk(tree):
                if isinstance(node, ast.Raise):
                    self.assertIn(called_name(node.exc), own, (name, node.lineno))
                if isinstance(node, ast.ExceptHandler):
                    self.assertIn(getattr(node.type, "id", None), own | {"KeyError"}, (name, node.lineno))

    def test_iterated_at_once(self):
        for name, _, tree in read_files():
            fitting = set()
            for node in ast.walk(tree):
                if isinstance(node, (ast.For, ast.comprehension)):
                    fitting.add(node.iter)
                elif called_name(node) in TAKERS:
                    fitting.update(node.args[:1])
                elif called_name(node) == "reversed" and called_name(node.args[0]) == "range":
                    fitting.update(node.args)
            for node in ast.walk(tree):
                if called_name(node) in ITERATED:
                    self.assertIn(node, fitting, (name, node.lineno))

    def test_generators(self):
        yielding = set()
        for name, _, tree in read_files():
            statements = {node.value for node in ast.walk(tree) if isinstance(node, ast.Expr)}
            functions = [node for node in tree.body if isinstance(node, ast.FunctionDef)]
            for node in ast.walk(tree):
                if isinstance(node, ast.Yield):
                    self.assertIn(node, statements, (name, node.lineno))
                    owners = [each.name for each in functions if node in list(ast.walk(each))]
                    self.assertEqual(len(owners), 1, (name, node.lineno))
                    yielding.update(owners)
        self.assertEqual(yielding, GENERATORS)
        for name, _, tree in read_files():
            fitting = set()
            for node in ast.walk(tree):
                if isinstance(node, (ast.For, ast.comprehension)):
                    fitting.update((node.iter, *getattr(node.iter, "args", ())[:1]))
            for node in ast.walk(tree):
                if called_name(node) in yielding:
                    self.assertIn(node, fitting, (name, node.lineno))
                    self.assertTrue(all(isinstance(each, ast.Name) for each in node.args), (name, node.lineno))
                if isinstance(node, ast.FunctionDef):
                    bound = [entry for entry, _ in bound_names(node)]
                    self.assertEqual(yielding & set(bound), set(), (name, node.name))

    def test_classes(self):
        owners = {
            node.name: node for _, _, tree in read_files() for node in tree.body if isinstance(node, ast.ClassDef)
        }
        for name, node in owners.items():
            self.assertTrue(all(each.id in owners or each.id == "ValueError" for each in node.bases), name)
            for entry in node.body[1:]:
                self.assertIsInstance(entry, (ast.FunctionDef, ast.Assign), name)
                if isinstance(entry, ast.Assign):
                    self.assertIsInstance(entry.value, ast.Constant, name)

    def test_no_name_is_a_method_and_an_attribute(self):
        methods, attributes = set(), set()
        for _, _, tree in read_files():
            for node in ast.walk(tree):
                if isinstance(node, ast.ClassDef):
                    methods |= {each.name for each in node.body if isinstance(each, ast.FunctionDef)}
                if isinstance(node, ast.Attribute) and isinstance(node.ctx, ast.Store):
                    self.assertIsInstance(node.value, ast.Name)
                    attributes.add(node.attr)
        self.assertEqual(methods & attributes, set())

    def test_nested_comprehensions_bind_names_of_their_own(self):
        comprehensions = (ast.ListComp, ast.DictComp, ast.SetComp)
        for name, _, tree in read_files():
            for outer in ast.walk(tree):
                if isinstance(outer, comprehensions):
                    taken = {each.id for part in outer.generators for each in ast.walk(part.target)
                             if isinstance(each, ast.Name)}
                    for inner in ast.walk(outer):
                        if inner is not outer and isinstance(inner, comprehensions):
                            more = {each.id for part in inner.generators for each in ast.walk(part.target)
                                    if isinstance(each, ast.Name)}
                            self.assertEqual(taken & more - {"_"}, set(), (name, inner.lineno))

    def test_sets(self):
        for name, _, tree in read_files():
            fitting = {
                entry for node in ast.walk(tree) if called_name(node) in ("len", "sorted") for entry in node.args
            }
            for node in ast.walk(tree):
                if called_name(node) == "set" or isinstance(node, (ast.Set, ast.SetComp)):
                    self.assertIn(node, fitting, (name, node.lineno))

    def test_loops_leave_alone_what_they_go_over(self):
        changing = {"append", "extend", "pop", "clear", "insert", "remove", "reverse"}
        for name, _, tree in read_files():
            for loop in ast.walk(tree):
                if not isinstance(loop, ast.For):
                    continue
                over = {node.id for node in ast.walk(loop.iter) if isinstance(node, ast.Name)}
                for node in ast.walk(loop):
                    if isinstance(node, ast.Call) and isinstance(node.func, ast.Attribute):
                        if node.func.attr in changing:
                            self.assertNotIn(getattr(node.func.value, "id", None), over, (name, node.lineno))
                    if isinstance(node, ast.Subscript) and isinstance(node.ctx, (ast.Store, ast.Del)):
                        self.assertNotIn(getattr(node.value, "id", None), over, (name, node.lineno))


if __name__ == "__main__":
    unittest.main()
