"""The form of the code: the rules on files, names, imports and signs that a look at the code can tell."""

import ast
import builtins
import pathlib
import unittest

FOLDER = pathlib.Path(__file__).resolve().parent.parent / "dicewins"
LIBRARY = {"math": {"gcd", "lcm", "isqrt", "comb", "perm", "factorial"}}
BUILTINS = set(
    "len range enumerate zip min max sum abs sorted reversed int str bool bytes list tuple dict set isinstance ord repr"
    " any all divmod Exception ValueError TypeError KeyError IndexError LookupError ZeroDivisionError NotImplemented"
    .split()
)
METHODS = set(
    "append clear copy count endswith extend find get index insert isalnum isalpha isdigit islower isspace isupper"
    " items join keys ljust lower lstrip partition pop remove replace reverse rfind rjust rpartition rsplit rstrip"
    " setdefault split splitlines startswith strip update upper values zfill bit_length isascii isdecimal".split()
)
STATEMENTS = (
    ast.FunctionDef, ast.ClassDef, ast.Return, ast.Assign, ast.AugAssign, ast.For, ast.While, ast.If, ast.Raise, ast.Try,
    ast.Expr, ast.Pass, ast.Break, ast.Continue, ast.ImportFrom, ast.Delete, ast.Assert, ast.With,
)
FORBIDDEN_NODES = (
    ast.Div, ast.GeneratorExp, ast.Lambda, ast.Global, ast.Await, ast.YieldFrom, ast.AnnAssign, ast.Import,
)
DOUBLE = {
    "__init__", "__eq__", "__repr__", "__str__", "__len__", "__iter__", "__add__", "__sub__", "__mul__", "__neg__",
    "__invert__", "__contains__", "__getitem__", "__call__", "__enter__", "__exit__",
}
FORBIDDEN_WORDS = set(
    "type typing enum Enum Flag Generic Protocol ABC namedtuple NamedTuple register mro elements input law eval exec"
    " compile globals locals vars dir getattr setattr hasattr delattr super open".split()
)
ITERATED = {"zip", "enumerate", "reversed", "range"}
TAKERS = {"list", "tuple", "dict", "sorted", "sum", "any", "all", "enumerate", "zip", "min", "max", "len"}
GENERATORS = {"turns", "rounds", "leads_on"}


def read_files():
    """Name, text and tree of each file of the package."""
    for path in sorted(FOLDER.glob("*.py")):
        text = path.read_text(encoding="utf-8")
        yield path.stem, text, ast.parse(text)


def called_name(node):
    """The bare name that is called, or None."""
    if isinstance(node, ast.Call) and isinstance(node.func, ast.Name):
        return node.func.id
    return None


def bound_names(tree):
    """All names of parameters and local variables, with their lines."""
    for node in ast.walk(tree):
        if isinstance(node, ast.arg):
            yield node.arg, node.lineno
        elif isinstance(node, ast.Name) and isinstance(node.ctx, ast.Store):
            yield node.id, node.lineno
        elif isinstance(node, ast.ExceptHandler) and node.name:
            yield node.name, node.lineno


def top_names(tree):
    """The names of the functions and classes of a file."""
    return [node.name for node in tree.body if isinstance(node, (ast.FunctionDef, ast.ClassDef))]


def is_own_attribute(node):
    """True for an attribute of self, or an attribute of one."""
    if not isinstance(node, ast.Attribute):
        return False
    while isinstance(node, ast.Attribute):
        node = node.value
    return isinstance(node, ast.Name) and node.id == "self"


def is_held(node):
    """True for what an attribute may be given in an __exit__; no sum, as classes of the package have a sign for it."""
    if isinstance(node, (ast.List, ast.Tuple)):
        return all(is_held(each) for each in node.elts)
    return isinstance(node, ast.Constant) or is_own_attribute(node)


def is_exit_test(node, asked):
    """True for the test of an if in an __exit__; no attribute alone, as classes of the package have == and a length."""
    if isinstance(node, ast.BoolOp):
        return all(is_exit_test(each, asked) for each in node.values)
    if isinstance(node, ast.UnaryOp) and isinstance(node.op, ast.Not):
        return is_exit_test(node.operand, asked)
    if not isinstance(node, ast.Compare) or len(node.ops) != 1 or not isinstance(node.ops[0], (ast.Is, ast.IsNot)):
        return False
    worth = node.comparators[0]
    if not isinstance(worth, ast.Constant) or worth.value is not None:
        return False
    return is_own_attribute(node.left) or isinstance(node.left, ast.Name) and node.left.id == asked


def own_call(row):
    """The name of the method in a row self.shut(), or None."""
    called = getattr(row, "value", None)
    if not isinstance(row, ast.Expr) or not isinstance(called, ast.Call) or called.args or called.keywords:
        return None
    fitting = isinstance(called.func, ast.Attribute) and isinstance(called.func.value, ast.Name)
    return called.func.attr if fitting and called.func.value.id == "self" else None


def is_exit_call(row):
    """True for the row self.rows.append(..) or self.rows.clear()."""
    called = getattr(row, "value", None)
    if not isinstance(row, ast.Expr) or not isinstance(called, ast.Call) or called.keywords:
        return False
    if not is_own_attribute(called.func) or not is_own_attribute(called.func.value):
        return False
    many = {"append": 1, "clear": 0}.get(called.func.attr)
    return len(called.args) == many and all(is_held(each) for each in called.args)


def is_exit_row(row):
    """True for a row that an __exit__, and a method that it calls, may have besides its ifs."""
    if isinstance(row, ast.Return):
        written = getattr(row.value, "value", None)
        return row.value is None or isinstance(row.value, ast.Constant) and (written is None or written is False)
    if isinstance(row, ast.Assign):
        return len(row.targets) == 1 and is_own_attribute(row.targets[0]) and is_held(row.value)
    if isinstance(row, ast.AugAssign):
        written = getattr(row.value, "value", None)
        fitting = isinstance(row.op, (ast.Add, ast.Sub)) and isinstance(row.value, ast.Constant)
        return fitting and type(written) is int and is_own_attribute(row.target)
    return isinstance(row, ast.Pass) or is_exit_call(row)


def exit_faults(rows, methods, asked):
    """The lines of the rows that L6 With does not allow; methods are those that may be called."""
    for row in rows:
        if isinstance(row, ast.If):
            if not is_exit_test(row.test, asked):
                yield row.lineno
            yield from exit_faults(row.body + row.orelse, methods, asked)
        elif own_call(row) in methods:
            # what it calls is handed nothing and calls nothing itself
            called = methods[own_call(row)]
            if ast.unparse(called.args) != "self" or called.decorator_list:
                yield called.lineno
            yield from exit_faults(called.body, {}, None)
        elif not is_exit_row(row):
            yield row.lineno


def faults_of(owner):
    """The lines of a class that L6 With does not allow in its __exit__ and in what that calls."""
    methods = {each.name: each for each in owner.body if isinstance(each, ast.FunctionDef)}
    found = methods.get("__exit__")
    if found is None:
        return []
    handed = ast.unparse(found.args)
    faults = [] if handed in ("self, kind, value, trace", "self, *told") else [found.lineno]
    if "__enter__" not in methods or ast.unparse(methods["__enter__"].args) != "self":
        faults.append(owner.lineno)
    asked = "kind" if handed == "self, kind, value, trace" else None
    return faults + list(exit_faults(found.body, methods, asked))


def imports_of(tree):
    """All imports of a file."""
    return [node for node in tree.body if isinstance(node, ast.ImportFrom)]


class FileTest(unittest.TestCase):
    def test_nothing_but_python_files(self):
        for path in FOLDER.iterdir():
            if path.name != "__pycache__":
                self.assertRegex(path.name, r"^[a-z_]+\.py$")

    def test_sizes_and_characters(self):
        for name, text, tree in read_files():
            lines = text.split("\n")
            self.assertLessEqual(len(lines), 399, name)
            for number, line in enumerate(lines, 1):
                self.assertLessEqual(len(line), 120, (name, number))
                self.assertTrue(all(" " <= letter <= "~" for letter in line), (name, number))
            for node in ast.walk(tree):
                if isinstance(node, ast.FunctionDef):
                    self.assertLessEqual(node.end_lineno - node.lineno + 1, 40, (name, node.name))

    def test_docstrings(self):
        for name, _, tree in read_files():
            self.assertTrue(ast.get_docstring(tree), name)
            for node in tree.body:
                if isinstance(node, (ast.FunctionDef, ast.ClassDef)):
                    self.assertTrue(ast.get_docstring(node), (name, node.name))


class ImportTest(unittest.TestCase):
    def test_sources(self):
        defined = {name: set(top_names(tree)) for name, _, tree in read_files()}
        for name, _, tree in read_files():
            for node in imports_of(tree):
                self.assertEqual(node.level, 0, name)
                for taken in node.names:
                    self.assertIsNone(taken.asname, (name, node.lineno))
                    if node.module in LIBRARY:
                        self.assertIn(taken.name, LIBRARY[node.module], (name, node.lineno))
                    else:
                        package, _, source = node.module.partition(".")
                        self.assertEqual(package, "dicewins", (name, node.lineno))
                        self.assertIn(taken.name, defined[source], (name, node.lineno))

    def test_all_are_used_and_bound_once(self):
        for name, _, tree in read_files():
            taken = [entry.name for node in imports_of(tree) for entry in node.names]
            used = {node.id for node in ast.walk(tree) if isinstance(node, ast.Name)}
            self.assertEqual(set(taken) - used, set(), name)
            bound = taken + top_names(tree)
            self.assertEqual(len(bound), len(set(bound)), name)

    def test_no_circles(self):
        sources = {
            name: {node.module.partition(".")[2] for node in imports_of(tree) if node.module not in LIBRARY}
            for name, _, tree in read_files()
        }
        while sources:
            ready = {name for name, needed in sources.items() if not needed & set(sources)}
            self.assertTrue(ready, sources)
            sources = {name: needed for name, needed in sources.items() if name not in ready}


class NameTest(unittest.TestCase):
    def test_no_name_has_another_meaning(self):
        for name, _, tree in read_files():
            taken = {entry.name for node in imports_of(tree) for entry in node.names}
            taken |= {node.name for node in tree.body if isinstance(node, ast.ClassDef)}
            for bound, line in bound_names(tree):
                self.assertNotIn(bound, taken, (name, line))
                # the name _ is there in some interpreters
                self.assertFalse(bound != "_" and hasattr(builtins, bound), (name, line, bound))
                self.assertNotIn(bound, FORBIDDEN_WORDS, (name, line))
                self.assertRegex(bound, r"^([a-zA-Z][a-zA-Z0-9_]*|_[a-z][a-z0-9_]*|_)$")
            for node in ast.walk(tree):
                if isinstance(node, ast.FunctionDef):
                    self.assertNotIn(node.name, FORBIDDEN_WORDS, name)
                    if node.name.startswith("__"):
                        self.assertIn(node.name, DOUBLE, name)
                    else:
                        self.assertFalse(hasattr(builtins, node.name), (name, node.name))

    def test_no_call_is_unknown(self):
        for name, _, tree in read_files():
            known = {entry.name for node in imports_of(tree) for entry in node.names} | set(top_names(tree)) | BUILTINS
            for node in ast.walk(tree):
                if isinstance(node, ast.Call) and isinstance(node.func, ast.Name):
                    self.assertIn(node.func.id, known | {"cls", "iter"}, (name, node.lineno))

    def test_methods_of_values(self):
        own = {
            node.name for _, _, tree in read_files() for node in ast.walk(tree) if isinstance(node, ast.FunctionDef)
        }
        for name, _, tree in read_files():
            for node in ast.walk(tree):
                if isinstance(node, ast.Call) and isinstance(node.func, ast.Attribute):
                    self.assertIn(node.func.attr, METHODS | own, (name, node.lineno))
                    # a class of the package has both == and a length
                    self.assertNotEqual(node.func.attr, "sort", (name, node.lineno))


class SignTest(unittest.TestCase):
    def test_statements_and_nodes(self):
        for name, _, tree in read_files():
            for node in ast.walk(tree):
                if isinstance(node, ast.stmt):
                    self.assertIsInstance(node, STATEMENTS, (name, node.lineno))
                self.assertNotIsInstance(node, FORBIDDEN_NODES, (name, getattr(node, "lineno", 0)))

    def test_module_level(self):
        for name, _, tree in read_files():
            for place, node in enumerate(tree.body):
                fitting = isinstance(node, (ast.ImportFrom, ast.FunctionDef, ast.ClassDef))
                # a table of plain values may stand there, too
                table = isinstance(node, ast.Assign) and isinstance(ast.literal_eval(node.value), dict)
                self.assertTrue(fitting or table or place == 0, (name, node.lineno))

    def test_decorators(self):
        for name, _, tree in read_files():
            for node in ast.walk(tree):
                if isinstance(node, ast.FunctionDef):
                    for entry in node.decorator_list:
                        fitting = ("property", "staticmethod", "classmethod", f"{node.name}.setter")
                        self.assertIn(ast.unparse(entry), fitting, (name, node.name))

    def test_is_and_exponents_and_texts(self):
        for name, _, tree in read_files():
            for node in ast.walk(tree):
                if isinstance(node, ast.Compare):
                    for sign, side in zip(node.ops, node.comparators):
                        if isinstance(sign, (ast.Is, ast.IsNot)):
                            self.assertIn(getattr(side, "value", 0), (None, True, False), (name, node.lineno))
                if isinstance(node, ast.BinOp) and isinstance(node.op, ast.Pow):
                    self.assertIsInstance(node.right, ast.Constant, (name, node.lineno))
                if isinstance(node, ast.Constant):
                    self.assertNotIsInstance(node.value, (float, complex), (name, node.lineno))
                    if isinstance(node.value, str):
                        self.assertNotIn("%", node.value, (name, node.lineno))

    def test_stars(self):
        for name, _, tree in read_files():
            for node in ast.walk(tree):
                if isinstance(node, ast.Starred):
                    self.assertIsInstance(node.value, (ast.Name, ast.List, ast.Tuple), (name, node.lineno))

    def test_raised_and_caught_errors(self):
        own = {node.name for stem, _, tree in read_files() if stem == "errors" for node in tree.body[1:]}
        for name, _, tree in read_files():
            for node in ast.walk(tree):
                if isinstance(node, ast.Raise):
                    self.assertIn(called_name(node.exc), own, (name, node.lineno))
                if isinstance(node, ast.ExceptHandler):
                    self.assertIn(getattr(node.type, "id", None), own | {"KeyError"}, (name, node.lineno))

    def test_iterated_at_once(self):
        for name, _, tree in read_files():
            fitting = set()
            for node in ast.walk(tree):
                if isinstance(node, (ast.For, ast.comprehension)):
                    fitting.add(node.iter)
                elif called_name(node) in TAKERS:
                    fitting.update(node.args[:1])
                elif called_name(node) == "reversed" and called_name(node.args[0]) == "range":
                    fitting.update(node.args)
            for node in ast.walk(tree):
                if called_name(node) in ITERATED:
                    self.assertIn(node, fitting, (name, node.lineno))

    def test_generators(self):
        yielding = set()
        for name, _, tree in read_files():
            statements = {node.value for node in ast.walk(tree) if isinstance(node, ast.Expr)}
            functions = [node for node in tree.body if isinstance(node, ast.FunctionDef)]
            for node in ast.walk(tree):
                if isinstance(node, ast.Yield):
                    self.assertIn(node, statements, (name, node.lineno))
                    owners = [each.name for each in functions if node in list(ast.walk(each))]
                    self.assertEqual(len(owners), 1, (name, node.lineno))
                    yielding.update(owners)
        self.assertEqual(yielding, GENERATORS)
        for name, _, tree in read_files():
            fitting = set()
            for node in ast.walk(tree):
                if isinstance(node, (ast.For, ast.comprehension)):
                    fitting.update((node.iter, *getattr(node.iter, "args", ())[:1]))
            for node in ast.walk(tree):
                if called_name(node) in yielding:
                    self.assertIn(node, fitting, (name, node.lineno))
                    self.assertTrue(all(isinstance(each, ast.Name) for each in node.args), (name, node.lineno))
                if isinstance(node, ast.FunctionDef):
                    bound = [entry for entry, _ in bound_names(node)]
                    self.assertEqual(yielding & set(bound), set(), (name, node.name))

    def test_classes(self):
        owners = {
            node.name: node for _, _, tree in read_files() for node in tree.body if isinstance(node, ast.ClassDef)
        }
        for name, node in owners.items():
            self.assertTrue(all(each.id in owners or each.id == "ValueError" for each in node.bases), name)
            for entry in node.body[1:]:
                self.assertIsInstance(entry, (ast.FunctionDef, ast.Assign), name)
                if isinstance(entry, ast.Assign):
                    self.assertIsInstance(entry.value, ast.Constant, name)

    def test_no_name_is_a_method_and_an_attribute(self):
        methods, attributes = set(), set()
        for _, _, tree in read_files():
            for node in ast.walk(tree):
                if isinstance(node, ast.ClassDef):
                    methods |= {each.name for each in node.body if isinstance(each, ast.FunctionDef)}
                if isinstance(node, ast.Attribute) and isinstance(node.ctx, ast.Store):
                    root = node.value
                    while isinstance(root, ast.Attribute):
                        root = root.value
                    self.assertIsInstance(root, ast.Name)
                    attributes.add(node.attr)
        self.assertEqual(methods & attributes, set())

    def test_nested_comprehensions_bind_names_of_their_own(self):
        comprehensions = (ast.ListComp, ast.DictComp, ast.SetComp)
        for name, _, tree in read_files():
            for outer in ast.walk(tree):
                if isinstance(outer, comprehensions):
                    taken = {each.id for part in outer.generators for each in ast.walk(part.target)
                             if isinstance(each, ast.Name)}
                    for inner in ast.walk(outer):
                        if inner is not outer and isinstance(inner, comprehensions):
                            more = {each.id for part in inner.generators for each in ast.walk(part.target)
                                    if isinstance(each, ast.Name)}
                            self.assertEqual(taken & more - {"_"}, set(), (name, inner.lineno))

    def test_sets(self):
        for name, _, tree in read_files():
            fitting = {
                entry for node in ast.walk(tree) if called_name(node) in ("len", "sorted") for entry in node.args
            }
            for node in ast.walk(tree):
                if called_name(node) == "set" or isinstance(node, (ast.Set, ast.SetComp)):
                    self.assertIn(node, fitting, (name, node.lineno))

    def test_loops_leave_alone_what_they_go_over(self):
        changing = {"append", "extend", "pop", "clear", "insert", "remove", "reverse"}
        for name, _, tree in read_files():
            for loop in ast.walk(tree):
                if not isinstance(loop, ast.For):
                    continue
                over = {node.id for node in ast.walk(loop.iter) if isinstance(node, ast.Name)}
                for node in ast.walk(loop):
                    if isinstance(node, ast.Call) and isinstance(node.func, ast.Attribute):
                        if node.func.attr in changing:
                            self.assertNotIn(getattr(node.func.value, "id", None), over, (name, node.lineno))
                    if isinstance(node, ast.Subscript) and isinstance(node.ctx, (ast.Store, ast.Del)):
                        self.assertNotIn(getattr(node.value, "id", None), over, (name, node.lineno))


RIGHT_EXITS = (
    "self.now = 0", "self.net.now = None", "self.net.rows = self.rows", "self.rows = [self.now, (1, 'a')]",
    "self.now += 1", "self.net.now -= 2", "self.rows.append(self.now)", "self.net.rows.clear()", "pass", "return",
    "return None", "return False", "self.shut()", "if kind is None:\n    self.now = 1",
    "if kind is not None and not self.rows is None:\n    pass",
    "if self.rows is None:\n    return\nelif self.now is not None or kind is None:\n    self.shut()\nelse:\n    pass",
)
WRONG_EXITS = (
    "net = self.net", "now = 0", "self.now = now", "self.now = kind", "self.now = -1", "self.now = self.other + 1",
    "self.now = self.other - 1", "self.now = self.rows[0]", "self.rows[0] = 1", "self.now = [self.rows[0]]",
    "self.now = {}", "self.now = len(self.rows)", "self.now = self.worth()", "self.now = self.rest = 0",
    "self.now, self.rest = 0, 1", "self.now: int = 0", "self.now = not self.rest", "self.now += self.rest",
    "self.now += -1", "self.now += True", "self.now *= 2", "now += 1", "self.now = f'{self.rest}'", "del self.now",
    "return True", "return 0", "return self.now", "raise KeyError()", "assert self.now is None",
    "for row in self.rows:\n    pass", "while self.now is None:\n    pass", "try:\n    pass\nfinally:\n    pass",
    "if self.now:\n    pass", "if not self.now:\n    pass", "if kind:\n    pass",
    "if self.now is None and not self.rest:\n    pass", "if self.now == 1:\n    pass",
    "if self.now is True:\n    pass", "if self.now is self.rest:\n    pass", "if value is None:\n    pass",
    "if trace is not None:\n    pass", "if self.now is None is None:\n    pass", "if None is self.now:\n    pass",
    "if self.rows[0] is None:\n    pass", "if self.now is None:\n    net = self.net",
    "if self.now is None:\n    pass\nelse:\n    del self.now", "if kind is None:\n    pass\nelif self.now:\n    pass",
    "self.rows.append(kind)", "self.rows.append(self.now + 1)", "self.rows.append()", "self.rows.append(1, 2)",
    "self.rows.clear(1)", "self.rows.pop()", "self.rows.extend([1])", "rows.append(1)", "self.other()",
    "self.shut(1)", "self.shut(kind=1)", "self.net.shut()", "shut()", "self.now", "1", "'what it does'",
    "with self.net:\n    pass", "match self.now:\n    case 1:\n        pass", "self.handed()", "self.made()",
)


class WithTest(unittest.TestCase):
    def class_of(self, rows, shut="pass", handed="self, kind, value, trace"):
        """The class of these rows in its __exit__, and of these in a method that it may call."""
        listed = [("__enter__(self)", "return self"), (f"__exit__({handed})", rows), ("shut(self)", shut),
                  ("handed(self, more=0)", "pass")]
        text = "class Held:\n"
        for head, body in listed:
            text += f"    def {head}:\n" + "".join(f"        {row}\n" for row in body.split("\n"))
        text += "    @staticmethod\n    def made():\n        pass\n"
        return ast.parse(text).body[0]

    def test_exits(self):
        found = []
        for name, _, tree in read_files():
            for node in ast.walk(tree):
                if isinstance(node, ast.ClassDef):
                    self.assertEqual(faults_of(node), [], (name, node.name))
                    if any(getattr(each, "name", None) == "__exit__" for each in node.body):
                        found.append(node.name)
        self.assertEqual(found, ["Trial"])

    def test_withs(self):
        for name, _, tree in read_files():
            for node in ast.walk(tree):
                if isinstance(node, ast.With):
                    for entry in node.items:
                        fitting = (ast.Call, ast.Name, ast.Attribute)
                        self.assertIsInstance(entry.context_expr, fitting, (name, node.lineno))
                        self.assertIsInstance(entry.optional_vars, (ast.Name, type(None)), (name, node.lineno))

    def test_right_rows_are_let_through(self):
        for rows in RIGHT_EXITS:
            self.assertEqual(faults_of(self.class_of(rows)), [], rows)
            if "shut" not in rows and "kind" not in rows:
                self.assertEqual(faults_of(self.class_of("self.shut()", rows)), [], rows)
        self.assertEqual(faults_of(self.class_of("self.now = 0", handed="self, *told")), [])

    def test_wrong_rows_are_seen(self):
        for rows in WRONG_EXITS:
            self.assertNotEqual(faults_of(self.class_of(rows)), [], rows)
            self.assertNotEqual(faults_of(self.class_of("self.shut()", rows)), [], rows)
            self.assertNotEqual(faults_of(self.class_of("if kind is None:\n    self.shut()", rows)), [], rows)
        # a method that an __exit__ calls is handed nothing and calls no other one
        for rows in ("if kind is None:\n    pass", "self.shut()", "self.__enter__()"):
            self.assertNotEqual(faults_of(self.class_of("self.shut()", rows)), [], rows)
        for handed in ("self", "self, kind", "self, kind, value", "self, kind, value, trace=None", "self, a, b, c"):
            self.assertNotEqual(faults_of(self.class_of("pass", handed=handed)), [], handed)
        self.assertNotEqual(faults_of(self.class_of("if kind is None:\n    pass", handed="self, *told")), [])
        self.assertNotEqual(faults_of(self.class_of("if told is None:\n    pass", handed="self, *told")), [])

    def test_the_line_is_told(self):
        rows = "if self.begun is not None:\n    desk = self.desk\nself.shut()"
        self.assertEqual(faults_of(self.class_of(rows, "if self.begun:\n    pass")), [6, 9])


if __name__ == "__main__":
    unittest.main()
