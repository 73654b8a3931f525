"""The rules of LANGUAGE.md that can be seen in a file of the package by itself. (The others need a reader.)"""

import ast
import builtins
import functools
import io
import pathlib
import re
import tokenize
import unittest

PACKAGE = pathlib.Path(__file__).resolve().parent.parent / "farenough"
BUILTINS = set("""
    len range enumerate zip min max sum abs sorted reversed int str bool bytes list tuple dict set frozenset
    isinstance ord repr any all divmod Exception ValueError TypeError KeyError IndexError LookupError
    ZeroDivisionError ArithmeticError OverflowError RuntimeError NotImplementedError AttributeError
    StopIteration NotImplemented iter next map super property staticmethod classmethod
""".split())
DOUBLE_UNDERSCORE = set("""
    __init__ __eq__ __repr__ __str__ __len__ __enter__ __exit__ __call__ __iter__ __lt__ __le__ __gt__ __ge__
    __ne__ __add__ __sub__ __mul__ __floordiv__ __mod__ __pow__ __and__ __or__ __xor__ __lshift__ __rshift__
    __neg__ __pos__ __invert__ __abs__ __bool__ __contains__ __getitem__ __setitem__
""".split())
METHODS = set("""
    append clear copy count endswith extend find get index insert isalnum isalpha isdigit islower isspace
    isupper items join keys ljust lower lstrip partition pop remove replace reverse rfind rjust rpartition
    rsplit rstrip setdefault split splitlines startswith strip update upper values zfill bit_length title
    capitalize swapcase casefold center expandtabs removeprefix removesuffix rindex isascii isdecimal
    isnumeric istitle isidentifier isprintable translate sort add discard
""".split())
NO_NAMES = set("""
    register mro elements open input law version_info with_traceback add_note attrgetter breakpoint builtins
    compile copyright credits delattr dir eval exec exit gc getattr globals hasattr help id importlib license
    locals methodcaller os quit setattr type vars sys __name__ _cold _tuplegetter _outside _record
    _written_out _member_names
""".split())
NO_WORDS = set("""
    type typing typing_extensions enum Enum IntEnum StrEnum Flag IntFlag Generic Protocol ABC ABCMeta
    namedtuple NamedTuple TypedDict TYPE_CHECKING abstractmethod
""".split())
NO_ATTRIBUTES = set("""
    items keys values pop update append clear extend insert remove reverse setdefault sort args encode decode
    hex fromhex format format_map mro as_integer_ratio bit_count conjugate from_bytes is_integer to_bytes
""".split())
NO_NODES = (ast.Global, ast.AsyncFunctionDef, ast.AsyncFor, ast.AsyncWith, ast.Await, ast.Div)
NO_BEGINNINGS = ("_pe_", "_dcw_", "_enum_", "_cm_", "_twin_re_", "_lay_", "_law_", "_stub_", "_sre")
NO_PIECES = r"_wall|_WallAttr|dataclass|overload|contextmanager|\(type\)|Meta|metaclass="
# Attributes that keep objects with a `__call__`.
CALLED = {"_course"}
DECORATORS = ["property", "staticmethod", "classmethod"]
LIBRARY = {"heapq", "math", "itertools"}


def files():
    return sorted(PACKAGE.rglob("*.py"))


@functools.cache
def trees():
    return [(path, ast.parse(path.read_text("ascii"))) for path in files()]


@functools.cache
def nodes(kind):
    found = [(path, node) for path, tree in trees() for node in ast.walk(tree) if isinstance(node, kind)]
    return [(f"{path.name}:{getattr(node, 'lineno', '')}", node) for path, node in found]


class FilesTest(unittest.TestCase):

    def test_nothing_else_in_the_folder(self):
        for path in PACKAGE.iterdir():
            self.assertTrue(path.name == "__pycache__" or re.fullmatch(r"[a-z_]+\.py", path.name), path)
        tree = ast.parse((PACKAGE / "__init__.py").read_text())
        self.assertEqual(len(tree.body), 1)
        self.assertTrue(ast.get_docstring(tree))

    def test_characters_and_sizes(self):
        for path in files():
            text = path.read_bytes()
            self.assertTrue(all(code == 10 or 32 <= code <= 126 for code in text), path)
            rows = text.decode().split("\n")
            self.assertLess(len(rows), 400, path)
            self.assertLessEqual(max(map(len, rows)), 120, path)

    def test_words(self):
        for path in files():
            self.assertNotRegex(path.read_text(), NO_PIECES)
            for token in tokenize.generate_tokens(io.StringIO(path.read_text()).readline):
                if token.type == tokenize.NAME:
                    self.assertNotIn(token.string, NO_WORDS, path)

    def test_functions_are_short(self):
        for where, node in nodes(ast.FunctionDef):
            self.assertLessEqual(node.end_lineno - node.lineno + 1, 40, where)

    def test_strings(self):
        for where, node in nodes(ast.Constant):
            self.assertNotIsInstance(node.value, (float, complex), where)
            if isinstance(node.value, str):
                self.assertNotIn("%", node.value, where)
                self.assertFalse(node.value.endswith(("._", ".__")), where)
                self.assertFalse(node.value.startswith("__") and node.value.endswith("__"), where)


class StatementsTest(unittest.TestCase):

    def test_imports(self):
        for path, tree in trees():
            for node in ast.walk(tree):
                self.assertNotIsInstance(node, ast.Import, path)
                if isinstance(node, ast.ImportFrom):
                    self.assertIn(node, tree.body)
                    self.assertEqual(node.level, 0)
                    self.assertTrue(node.module in LIBRARY or re.fullmatch(r"farenough\.\w+", node.module), path)
                    self.check_imported(node)

    def check_imported(self, node):
        if node.module in LIBRARY:
            return
        tree = ast.parse((PACKAGE / (node.module.split(".")[1] + ".py")).read_text())
        defined = {part.name for part in tree.body if isinstance(part, (ast.FunctionDef, ast.ClassDef))}
        defined |= {part.targets[0].id for part in tree.body if isinstance(part, ast.Assign)}
        for alias in node.names:
            self.assertIn(alias.name, defined)
            self.assertIsNone(alias.asname)

    def test_no_two_files_import_from_each_other(self):
        imported = {path.stem: [node.module.split(".")[1] for node in tree.body if isinstance(node, ast.ImportFrom)
                                and node.module not in LIBRARY] for path, tree in trees()}
        done = []
        while len(done) < len(imported):
            ready = [name for name in imported if name not in done and all(other in done for other in imported[name])]
            self.assertTrue(ready, "files import from each other")
            done += ready

    def test_module_level(self):
        for path, tree in trees():
            for node in tree.body:
                self.assertIsInstance(node, (ast.Expr, ast.ImportFrom, ast.FunctionDef, ast.ClassDef, ast.Assign), path)
                if isinstance(node, ast.Expr):
                    self.assertIsInstance(node.value, ast.Constant)

    def test_statements_that_are_not_allowed(self):
        for where, node in nodes(NO_NODES):
            self.fail(where)

    def test_decorators(self):
        for where, node in nodes((ast.FunctionDef, ast.ClassDef)):
            for decorator in node.decorator_list:
                self.assertIn(ast.unparse(decorator), [*DECORATORS, f"{node.name}.setter"], where)

    def test_is_only_beside_none_true_and_false(self):
        for where, node in nodes(ast.Compare):
            for sign, right in zip(node.ops, node.comparators):
                if isinstance(sign, (ast.Is, ast.IsNot)):
                    self.assertIn(ast.unparse(right), ["None", "True", "False"], where)

    def test_generator_expressions_stand_beside_no_own_equality(self):
        for where, node in nodes(ast.Call):
            if isinstance(node.func, ast.Name) and node.func.id in ("any", "all", "min", "max", "sum", "sorted"):
                self.assertFalse(any(isinstance(part, ast.GeneratorExp) for part in node.args), where)

    def test_handlers(self):
        for where, node in nodes(ast.ExceptHandler):
            self.assertIsNotNone(node.type, where)
            self.assertNotIn(ast.unparse(node.type), ["Exception", "TypeError", "AttributeError"], where)


class NamesTest(unittest.TestCase):

    PYTHON = set(dir(builtins))

    def bound(self):
        for where, node in nodes((ast.Name, ast.arg, ast.FunctionDef, ast.ClassDef)):
            if isinstance(node, ast.Name):
                if isinstance(node.ctx, ast.Store):
                    yield where, node.id
            else:
                yield where, node.arg if isinstance(node, ast.arg) else node.name

    def test_bound_names(self):
        for where, name in self.bound():
            self.assertNotIn(name, NO_NAMES, where)
            self.assertNotIn(name, self.PYTHON, where)
            if name.startswith("__"):
                self.assertIn(name, DOUBLE_UNDERSCORE, where)
            self.assertFalse(name.startswith(NO_BEGINNINGS), where)

    def test_builtins(self):
        for where, node in nodes(ast.Name):
            if node.id in self.PYTHON:
                self.assertIn(node.id, BUILTINS, where)

    def test_attributes(self):
        own = {node.name for _, node in nodes(ast.FunctionDef)}
        for where, node in nodes(ast.Attribute):
            self.assertFalse(node.attr.startswith("__") and node.attr != "__init__", where)
            if isinstance(node.ctx, ast.Store):
                self.assertNotIn(node.attr, NO_ATTRIBUTES | NO_NAMES, where)
        for where, node in nodes(ast.Call):
            if isinstance(node.func, ast.Attribute):
                self.assertIn(node.func.attr, METHODS | own | CALLED | {"__init__"}, where)

    def test_no_local_name_is_that_of_a_class_or_an_import(self):
        for path, tree in trees():
            taken = {alias.name for node in tree.body if isinstance(node, ast.ImportFrom) for alias in node.names}
            taken |= {node.name for node in tree.body if isinstance(node, ast.ClassDef)}
            for node in ast.walk(tree):
                if isinstance(node, ast.Name) and isinstance(node.ctx, ast.Store):
                    self.assertNotIn(node.id, taken, path)
                if isinstance(node, ast.arg):
                    self.assertNotIn(node.arg, taken, path)

    def test_a_class_with_items_is_not_iterated_over(self):
        for where, node in nodes(ast.ClassDef):
            names = [part.name for part in node.body if isinstance(part, ast.FunctionDef)]
            self.assertEqual(len(set(names)), len(names) - self.setters(node), where)
            if "__getitem__" in names:
                self.assertIn("__iter__", names, where)

    def test_names_of_properties_are_not_those_of_methods(self):
        properties, methods, generators = set(), set(), set()
        for where, node in nodes(ast.FunctionDef):
            decorators = [ast.unparse(decorator) for decorator in node.decorator_list]
            (properties if "property" in decorators else methods).add(node.name)
            if any(isinstance(part, (ast.Yield, ast.YieldFrom)) for part in ast.walk(node)):
                generators.add(node.name)
        functions = {part.name for _, tree in trees() for part in tree.body if isinstance(part, ast.FunctionDef)}
        self.assertEqual(properties & (methods - functions), set())
        stored = {node.attr for _, node in nodes(ast.Attribute) if isinstance(node.ctx, ast.Store)}
        self.assertEqual(stored & generators, set())
        self.assertEqual((methods | properties) & {"items", "keys", "values"}, set())
        self.assertNotIn("discard", [node.func.attr for _, node in nodes(ast.Call)
                                     if isinstance(node.func, ast.Attribute)])

    def test_no_set_is_stored_beside_an_own_add(self):
        for where, node in nodes(ast.Assign):
            self.assertNotIsInstance(node.value, (ast.Set, ast.SetComp), where)
            if isinstance(node.value, ast.Call):
                self.assertNotEqual(ast.unparse(node.value.func), "set", where)

    def test_no_name_is_a_method_and_an_attribute(self):
        stored = {node.attr for _, node in nodes(ast.Attribute) if isinstance(node.ctx, ast.Store)}
        methods = {part.name for _, node in nodes(ast.ClassDef) for part in node.body if isinstance(part, ast.FunctionDef)}
        self.assertEqual(methods & stored, set())

    def setters(self, node):
        return len([part for part in node.body if isinstance(part, ast.FunctionDef)
                    and any(ast.unparse(decorator).endswith(".setter") for decorator in part.decorator_list)])


def functions():
    """All functions and methods of the package: pairs of a place in the files and the node."""
    return nodes(ast.FunctionDef)


@functools.cache
def generators():
    return {node.name for _, node in functions()
            if any(isinstance(part, (ast.Yield, ast.YieldFrom)) for part in ast.walk(node))}


def is_property(node):
    return "property" in [ast.unparse(decorator) for decorator in node.decorator_list]


def called_in(node):
    """The names of what is called in a node, by a bare name or as a method."""
    for part in ast.walk(node):
        if isinstance(part, ast.Call):
            yield part.func.id if isinstance(part.func, ast.Name) else part.func.attr


class PlainValuesTest(unittest.TestCase):
    """L3: a name at module level is assigned a plain value once."""

    def is_plain(self, value, above):
        if isinstance(value, ast.Constant):
            return value.value is None or isinstance(value.value, (int, str, bytes))
        if isinstance(value, ast.UnaryOp):
            return isinstance(value.op, ast.USub) and isinstance(value.operand, ast.Constant)
        if isinstance(value, (ast.Tuple, ast.List)):
            return all(self.is_plain(item, above) for item in value.elts)
        if isinstance(value, ast.Dict):
            return all(self.is_plain(item, above) for item in [*value.keys, *value.values])
        return isinstance(value, ast.Name) and value.id in above

    def check(self, tree, path=None):
        above, taken = set(), set()
        for node in tree.body:
            if isinstance(node, ast.FunctionDef):
                above.add(node.name)
            if isinstance(node, (ast.Assign, ast.AnnAssign, ast.AugAssign)):
                self.assertIsInstance(node, ast.Assign, path)
                self.assertEqual(len(node.targets), 1, path)
                target = node.targets[0]
                self.assertIsInstance(target, ast.Name, path)
                self.assertNotIn(target.id, taken, path)
                taken.add(target.id)
                self.assertTrue(self.is_plain(node.value, above), f"{path}:{node.lineno}")

    def test_all_files(self):
        for path, tree in trees():
            self.check(tree, path)

    def test_what_is_not_plain(self):
        for row in ["A = len('x')", "A = 2 ** 4", "A, B = 1, 2", "A = B = 1", "A = [k for k in (1, 2)]", "A = 1\nA = 2",
                    "A = {'x': later}", "A = (len,)", "A = 1\nB = A"]:
            with self.assertRaises(AssertionError, msg=row):
                self.check(ast.parse(row))
        self.check(ast.parse("def f():\n    pass\nA = {'x': f, 'y': (1, -2, None)}\nB = [True, b'x']"))


class GeneratorsTest(unittest.TestCase):
    """L23: what a generator goes over is not changed by the loop that walks it."""

    def heads(self, tree, names):
        """The rows of a loop in whose head a generator is called; its list is to be taken in a row of its own."""
        return [node.lineno for node in ast.walk(tree)
                if isinstance(node, ast.For) and names & set(called_in(node.iter))]

    def test_no_loop_walks_a_generator(self):
        for path, tree in trees():
            self.assertEqual(self.heads(tree, generators()), [], path)

    def test_comprehensions_over_generators_change_nothing(self):
        for where, node in nodes((ast.ListComp, ast.DictComp)):
            if any(generators() & set(called_in(part.iter)) for part in node.generators):
                self.assertLessEqual(set(called_in(node)), generators() | {"list"}, where)

    def test_what_is_found(self):
        self.assertIn("steps", generators())
        for head in ["record.steps()", "list(self.steps())", "enumerate(record.steps())"]:
            self.assertEqual(self.heads(ast.parse(f"for k in {head}:\n    pass"), {"steps"}), [1])
        self.assertEqual(self.heads(ast.parse("rows = list(a.steps())\nfor k in rows:\n    pass"), {"steps"}), [])


class PureTest(unittest.TestCase):
    """L5 and L28: operators, properties and their like change nothing and call nothing that they are passed or hold."""

    MODIFY = set("append clear extend insert pop remove reverse setdefault update sort add discard".split())
    KINDS = {"list", "dict", "sorted"}

    def reached(self):
        """What operators, properties and their like call, and what this calls."""
        table = {}
        for where, node in functions():
            table.setdefault(node.name, []).append((where, node))
        for where, node in nodes(ast.ClassDef):
            inits = [part for part in node.body if isinstance(part, ast.FunctionDef) and part.name == "__init__"]
            table.setdefault(node.name, []).extend((where, part) for part in inits)
        apart = ("__init__", "__call__", "__setitem__", "__enter__", "__exit__", "__iter__")
        names = [node.name for _, node in functions()
                 if is_property(node) or node.name in DOUBLE_UNDERSCORE and node.name not in apart]
        done = set()
        while names:
            name = names.pop()
            if name not in done:
                done.add(name)
                names.extend(other for _, node in table.get(name, []) for other in called_in(node))
        return [pair for name in sorted(done) for pair in table.get(name, [])]

    def own(self, node):
        """The local lists and dicts that a function creates, each in a row of its own."""
        own, others = set(), set()
        for part in ast.walk(node):
            if isinstance(part, ast.Assign) and len(part.targets) == 1 and isinstance(part.targets[0], ast.Name):
                literal = isinstance(part.value, (ast.List, ast.Dict, ast.ListComp))
                called = isinstance(part.value, ast.Call) and ast.unparse(part.value.func) in self.KINDS
                (own if literal or called else others).add(part.targets[0].id)
            elif isinstance(part, ast.Name) and isinstance(part.ctx, ast.Store):
                others.add(part.id)
        # The same names are seen again as parts of their assignments; those do not count.
        assigned = [part.id for part in ast.walk(node) if isinstance(part, ast.Name) and isinstance(part.ctx, ast.Store)]
        plain = [part.targets[0].id for part in ast.walk(node)
                 if isinstance(part, ast.Assign) and len(part.targets) == 1 and isinstance(part.targets[0], ast.Name)]
        return {name for name in own if assigned.count(name) == plain.count(name)}

    def faults(self, node):
        own = self.own(node)
        parameters = {part.arg for part in ast.walk(node) if isinstance(part, ast.arg)}
        for part in ast.walk(node):
            if isinstance(part, ast.Attribute) and not isinstance(part.ctx, ast.Load) and node.name != "__init__":
                yield part.lineno
            if isinstance(part, ast.Subscript) and not isinstance(part.ctx, ast.Load):
                if ast.unparse(part.value) not in own:
                    yield part.lineno
            if isinstance(part, ast.AugAssign) and not isinstance(part.value, ast.Constant):
                yield part.lineno
            if isinstance(part, ast.Call) and isinstance(part.func, ast.Attribute) and part.func.attr in self.MODIFY:
                if ast.unparse(part.func.value) not in own:
                    yield part.lineno
            if isinstance(part, ast.Call) and isinstance(part.func, ast.Name) and part.func.id in parameters:
                yield part.lineno
            if isinstance(part, ast.Call) and isinstance(part.func, ast.Attribute) and part.func.attr in CALLED:
                yield part.lineno

    def test_all_that_is_reached(self):
        names = []
        for where, node in self.reached():
            names.append(node.name)
            self.assertEqual(list(self.faults(node)), [], f"{where} {node.name}")
        self.assertLessEqual({"__or__", "record", "__len__", "in_order"}, set(names))

    def test_what_is_found(self):
        for row in ["a, b = {}, []\n b.append(1)", "a = b = []\n b.append(1)", "x.append(1)", "x[0] = 1", "x.y = 1",
                    "x(1)", "del x[0]", "a = {k: 1 for k in x}\n a[1] = 1\n a = x", "y = 1\n y += x", "self._course(x)"]:
            node = ast.parse(f"def f(self, x):\n {row}").body[0]
            self.assertTrue(list(self.faults(node)), row)
        for row in ["a = {}\n a[1] = x", "b = []\n b.append(x)", "b = sorted(x)\n b.append(1)", "k = 0\n k += 1"]:
            node = ast.parse(f"def f(self, x):\n {row}").body[0]
            self.assertEqual(list(self.faults(node)), [], row)


if __name__ == "__main__":
    unittest.main()
