"""The package keeps to the subset of the language, as far as a look at its text can tell."""

import ast
import builtins
import pathlib
import re
import unittest
import warnings

FOLDER = pathlib.Path(__file__).resolve().parent.parent / "gapgrades"
FILES = sorted(path for path in FOLDER.iterdir() if path.name != "__pycache__")
BARRED_WORDS = (
    "type typing typing_extensions enum Enum IntEnum StrEnum Flag IntFlag Generic Protocol ABC ABCMeta namedtuple "
    "NamedTuple TypedDict TYPE_CHECKING abstractmethod"
).split()
BARRED_NAMES = (
    "register mro elements open input version_info with_traceback add_note attrgetter breakpoint builtins compile "
    "copyright credits delattr dir eval exec exit gc getattr globals hasattr help id importlib license locals "
    "methodcaller os quit setattr super type vars sys format format_map"
).split()
BUILTINS = (
    "len range enumerate zip min max sum abs sorted reversed int str bool bytes list tuple dict set frozenset "
    "isinstance ord repr any all divmod Exception ValueError TypeError KeyError IndexError LookupError "
    "ZeroDivisionError ArithmeticError OverflowError RuntimeError NotImplementedError"
).split()
METHODS = (
    "append clear copy count endswith extend find get index insert isalnum isalpha isdigit islower isspace isupper "
    "items join keys ljust lower lstrip partition pop remove replace reverse rfind rjust rpartition rsplit rstrip "
    "setdefault split splitlines startswith strip update upper values zfill bit_length add discard"
).split()
DUNDERS = "__init__ __eq__ __repr__ __str__ __len__".split()
BARRED_NODES = (
    ast.Global, ast.AsyncFunctionDef, ast.AsyncFor, ast.AsyncWith, ast.Await, ast.Div, ast.Import, ast.GeneratorExp,
    ast.Yield, ast.YieldFrom, ast.Nonlocal, ast.AnnAssign,
)
PLAIN_AT_TOP = (
    ast.Constant, ast.Tuple, ast.List, ast.Dict, ast.BinOp, ast.UnaryOp, ast.operator, ast.unaryop, ast.expr_context,
    ast.Name,
)

AT_ONCE = "list tuple dict sorted sum any all enumerate zip min max reversed".split()


def nodes(kind):
    """All nodes of a kind, each with its file."""
    for path in FILES:
        for node in ast.walk(ast.parse(path.read_text())):
            if isinstance(node, kind):
                yield path.name, node


def bound_names(tree):
    """The names that functions of a file bind: parameters and targets."""
    for node in ast.walk(tree):
        if isinstance(node, ast.arg):
            yield node.arg
        if isinstance(node, ast.Name) and isinstance(node.ctx, ast.Store):
            yield node.id


def imported_names(tree):
    """The names that a file imports."""
    return [name.name for node in tree.body if isinstance(node, ast.ImportFrom) for name in node.names]


class Text(unittest.TestCase):
    def test_files(self):
        self.assertIn("__init__.py", [path.name for path in FILES])
        for path in FILES:
            self.assertTrue(path.is_file(), path)
            self.assertRegex(path.name, r"\A([a-z][a-z0-9]*|__init__)\.py\Z")

    def test_size_and_signs(self):
        for path in FILES:
            text = path.read_text()
            self.assertLessEqual(len(text.splitlines()), 400, path)
            self.assertTrue(all(" " <= sign <= "~" or sign == "\n" for sign in text), path)
            for number, line in enumerate(text.splitlines(), 1):
                self.assertLessEqual(len(line), 120, (path, number))
                self.assertEqual(line, line.rstrip(), (path, number))

    def test_python_warns_of_nothing(self):
        with warnings.catch_warnings():
            warnings.simplefilter("error")
            for path in FILES:
                compile(path.read_text(), str(path), "exec")

    def test_functions_are_short(self):
        for name, node in nodes(ast.FunctionDef):
            self.assertLessEqual(node.end_lineno - node.lineno + 1, 40, (name, node.name))

    def test_barred_words(self):
        for path in FILES:
            for word in re.findall(r"\w+", path.read_text()):
                self.assertNotIn(word, BARRED_WORDS, path)
                self.assertNotRegex(word, "dataclass|overload|contextmanager")

    def test_strings(self):
        for name, node in nodes(ast.Constant):
            self.assertNotIsInstance(node.value, (float, complex))
            if isinstance(node.value, str):
                self.assertNotIn("%", node.value, name)


class Shape(unittest.TestCase):
    def test_barred_statements_and_signs(self):
        for name, node in nodes(BARRED_NODES):
            self.fail((name, getattr(node, "lineno", None), ast.dump(node)))

    def test_imports_name_the_file_that_defines(self):
        defined = {
            path.stem: [node.name for node in ast.parse(path.read_text()).body if hasattr(node, "name")]
            + [node.targets[0].id for node in ast.parse(path.read_text()).body if isinstance(node, ast.Assign)]
            for path in FILES
        }
        for name, node in nodes(ast.ImportFrom):
            self.assertEqual(node.level, 0, name)
            package, _, module = node.module.partition(".")
            self.assertEqual(package, "gapgrades", name)
            for part in node.names:
                self.assertIn(part.name, defined[module], name)
                self.assertIsNone(part.asname)

    def test_imports_are_all_used(self):
        for path in FILES:
            tree = ast.parse(path.read_text())
            read = {node.id for node in ast.walk(tree) if isinstance(node, ast.Name)}
            self.assertEqual(set(imported_names(tree)) - read, set(), path)

    def test_no_two_files_import_each_other(self):
        leads = {path.stem: set() for path in FILES}
        for name, node in nodes(ast.ImportFrom):
            leads[name[:-3]].add(node.module.partition(".")[2])
        while leads:
            free = [name for name in leads if not leads[name] & set(leads)]
            self.assertTrue(free, leads)
            for name in free:
                del leads[name]

    def test_top_of_files(self):
        for path in FILES:
            bound = []
            for at, node in enumerate(ast.parse(path.read_text()).body):
                if at == 0:
                    self.assertIsInstance(node, ast.Expr, path)
                    self.assertIsInstance(node.value.value, str, path)
                    continue
                self.assertIsInstance(node, (ast.ImportFrom, ast.FunctionDef, ast.ClassDef, ast.Assign), path)
                if isinstance(node, ast.Assign):
                    self.assertEqual(len(node.targets), 1)
                    self.assertTrue(all(isinstance(part, PLAIN_AT_TOP) for part in ast.walk(node.value)), path)
                    bound.append(node.targets[0].id)
                elif isinstance(node, ast.ImportFrom):
                    bound += [part.name for part in node.names]
                else:
                    self.assertEqual(node.decorator_list, [])
                    bound.append(node.name)
            self.assertEqual(len(bound), len(set(bound)), path)

    def test_exponents(self):
        for name, node in nodes(ast.BinOp):
            if isinstance(node.op, ast.Pow):
                self.assertIsInstance(node.right, ast.Constant, name)
                self.assertTrue(0 <= node.right.value <= 64, (name, node.lineno))

    def test_is_with_none_and_truths_only(self):
        for name, node in nodes(ast.Compare):
            for sign, part in zip(node.ops, node.comparators):
                if isinstance(sign, (ast.Is, ast.IsNot)):
                    self.assertIn(ast.unparse(part), ("None", "True", "False"), name)


    def test_stars_in_calls_stand_before_names(self):
        for name, node in nodes(ast.Call):
            for part in node.args:
                if isinstance(part, ast.Starred):
                    self.assertIsInstance(part.value, ast.Name, (name, node.lineno))
            self.assertTrue(all(part.arg is not None for part in node.keywords), (name, node.lineno))

    def test_own_errors_alone_are_raised_and_caught(self):
        own = [node.name for name, node in nodes(ast.ClassDef) if name == "errors.py"]
        for name, node in nodes(ast.ExceptHandler):
            told = node.type.elts if isinstance(node.type, ast.Tuple) else [node.type]
            self.assertTrue(all(part.id in own for part in told), (name, node.lineno))
        for name, node in nodes(ast.Raise):
            self.assertIn(node.exc.func.id, own, (name, node.lineno))
            self.assertTrue(node.cause is None or ast.unparse(node.cause) == "None", (name, node.lineno))

    def test_tables_are_only_read(self):
        for path in FILES:
            tree = ast.parse(path.read_text())
            tables = [
                node.targets[0].id for node in tree.body
                if isinstance(node, ast.Assign) and isinstance(node.value, (ast.List, ast.Dict))
            ]
            read = set()
            for node in ast.walk(tree):
                if isinstance(node, ast.Subscript) and isinstance(node.ctx, ast.Load):
                    read.add(id(node.value))
                if isinstance(node, ast.Compare):
                    read.update(id(part) for part in node.comparators)
                if isinstance(node, ast.Call):
                    self.assertNotIsInstance(node.func, ast.Subscript, (path.name, node.lineno))
            for node in ast.walk(tree):
                if isinstance(node, ast.Name) and node.id in tables and isinstance(node.ctx, ast.Load):
                    self.assertIn(id(node), read, (path.name, node.lineno))


class Iterated(unittest.TestCase):
    def test_ranges_and_the_like_are_iterated_on_the_spot(self):
        for path in FILES:
            tree = ast.parse(path.read_text())
            at_once = set()
            for node in ast.walk(tree):
                if isinstance(node, (ast.For, ast.comprehension)):
                    at_once.add(id(node.iter))
                if isinstance(node, ast.Call) and isinstance(node.func, ast.Name) and node.func.id in AT_ONCE:
                    at_once.update(id(part) for part in node.args)
            for node in ast.walk(tree):
                if isinstance(node, ast.Call):
                    named = isinstance(node.func, ast.Name) and node.func.id in ("range", "zip", "enumerate", "reversed")
                    method = isinstance(node.func, ast.Attribute) and node.func.attr in ("items", "keys", "values")
                    if named or method:
                        self.assertIn(id(node), at_once, (path.name, node.lineno))

    def test_sets_stand_in_sorted_and_len_alone(self):
        for path in FILES:
            tree = ast.parse(path.read_text())
            held = set()
            for node in ast.walk(tree):
                if isinstance(node, ast.Call) and isinstance(node.func, ast.Name) and node.func.id in ("sorted", "len"):
                    held.update(id(part) for part in node.args)
            for node in ast.walk(tree):
                made = isinstance(node, ast.Call) and isinstance(node.func, ast.Name) and node.func.id == "set"
                if made or isinstance(node, (ast.Set, ast.SetComp)):
                    self.assertIn(id(node), held, (path.name, node.lineno))


class Names(unittest.TestCase):
    def test_bound_names(self):
        for path in FILES:
            tree = ast.parse(path.read_text())
            classes = [node.name for node in tree.body if isinstance(node, ast.ClassDef)]
            for name in bound_names(tree):
                self.assertNotIn(name, dir(builtins), path)
                self.assertNotIn(name, BARRED_NAMES, path)
                self.assertNotIn(name, imported_names(tree) + classes, path)
                self.assertRegex(name, r"\A[A-Za-z][A-Za-z0-9_]*\Z", path)

    def test_builtins(self):
        for name, node in nodes(ast.Name):
            if node.id in dir(builtins):
                self.assertIn(node.id, BUILTINS, (name, node.lineno))

    def test_methods_and_attributes(self):
        methods = {node.name for _, of in nodes(ast.ClassDef) for node in of.body if isinstance(node, ast.FunctionDef)}
        stored = {node.attr for _, node in nodes(ast.Attribute) if isinstance(node.ctx, ast.Store)}
        self.assertEqual(methods & stored, set())
        for name in methods | stored:
            self.assertNotIn(name, BARRED_NAMES)
            self.assertTrue(name in DUNDERS or re.fullmatch("[a-z][a-z_0-9]*", name), name)
        for name, node in nodes(ast.Attribute):
            self.assertIn(node.attr, methods | stored | set(METHODS), (name, node.lineno))

    def test_defaults_are_plain(self):
        for name, node in nodes(ast.arguments):
            self.assertEqual(node.posonlyargs, [], name)
            for worth in node.defaults + [part for part in node.kw_defaults if part is not None]:
                self.assertIsInstance(worth, ast.Constant, name)
