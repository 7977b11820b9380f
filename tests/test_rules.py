"""Those rules of the language of the program that can be seen in its text (L1 to L28)."""

import ast
import builtins
import re
import unittest
import warnings
from pathlib import Path

PACKAGE = Path(__file__).resolve().parent.parent / "lassoproof"
FILES = sorted(PACKAGE.rglob("*.py"))

BUILTINS = set(
    "len range enumerate zip min max sum abs sorted reversed int str bool list tuple dict set "
    "isinstance ord repr any all divmod Exception ValueError TypeError KeyError IndexError "
    "LookupError ZeroDivisionError ArithmeticError OverflowError RuntimeError iter next map "
    "NotImplementedError NotImplemented".split()
)
METHODS = set(
    "append clear copy count endswith extend find get index insert isalnum isalpha isdigit "
    "islower isspace isupper items join keys ljust lower lstrip partition pop remove replace "
    "reverse rfind rjust rpartition rsplit rstrip setdefault split splitlines startswith strip "
    "update upper values zfill bit_length add discard __init__".split()
)
STATEMENTS = (
    ast.Assign, ast.AugAssign, ast.If, ast.While, ast.For, ast.Return, ast.Break, ast.Continue,
    ast.Pass, ast.Raise, ast.Assert, ast.Delete, ast.Nonlocal, ast.Try, ast.Expr,
    ast.FunctionDef, ast.ClassDef, ast.ImportFrom,
)
BARRED_NAMES = set(
    "register mro elements open input law version_info with_traceback add_note attrgetter "
    "breakpoint builtins compile copyright credits delattr dir eval exec exit gc getattr globals "
    "hasattr help id importlib license locals methodcaller os quit setattr super type vars "
    "sys".split()
)
BARRED_WORDS = set(
    "type typing typing_extensions enum Enum IntEnum StrEnum Flag IntFlag Generic Protocol ABC "
    "ABCMeta namedtuple NamedTuple TypedDict TYPE_CHECKING abstractmethod".split()
)
ITERATING = set("list tuple dict sorted sum any all enumerate zip min max join".split())
CHANGING = set("append clear extend insert pop remove reverse setdefault update".split())
BARRED_ATTRIBUTES = set(
    "items keys values pop update append clear extend insert remove reverse setdefault sort args "
    "encode decode hex fromhex format format_map".split()
)


def is_builtin(name):
    return hasattr(builtins, name) and name != "__init__"


def parsed(path):
    return ast.parse(path.read_text(encoding="utf-8"))


def nodes(path, *kinds):
    return [node for node in ast.walk(parsed(path)) if isinstance(node, kinds)]


def module_name(path):
    words = path.relative_to(PACKAGE.parent).with_suffix("").parts
    return ".".join(words[:-1] if words[-1] == "__init__" else words)


def module_path(name):
    path = PACKAGE.parent.joinpath(*name.split("."))
    return path / "__init__.py" if path.is_dir() else path.with_suffix(".py")


def defined(path):
    """The names that the statements of a module define, imports left out."""
    names = []
    for node in parsed(path).body:
        if isinstance(node, (ast.FunctionDef, ast.ClassDef)):
            names.append(node.name)
        if isinstance(node, ast.Assign):
            names += [target.id for target in node.targets]
    return names


def imported(path):
    return [alias.name for node in nodes(path, ast.ImportFrom) for alias in node.names]


def stored(tree):
    """The names that a tree gives a meaning: parameters, targets, functions, classes."""
    names = []
    for node in ast.walk(tree):
        if isinstance(node, ast.Name) and not isinstance(node.ctx, ast.Load):
            names.append(node.id)
        if isinstance(node, ast.arg):
            names.append(node.arg)
        if isinstance(node, (ast.FunctionDef, ast.ClassDef)):
            names.append(node.name)
        if isinstance(node, ast.ExceptHandler) and node.name:
            names.append(node.name)
    return names


def is_plain(node):
    """Whether a value at module level is written out, without a list or a dict inside."""
    if isinstance(node, ast.Constant):
        return isinstance(node.value, (int, str, bytes, type(None)))
    if isinstance(node, ast.Tuple):
        return all(is_plain(part) for part in node.elts)
    return isinstance(node, ast.Name)


class Files(unittest.TestCase):
    def test_names_and_number_of_files(self):
        self.assertLessEqual(len(FILES), 100)
        for path in PACKAGE.rglob("*"):
            if "__pycache__" in path.parts:
                continue
            if path.is_dir():
                self.assertTrue((path / "__init__.py").exists(), path)
                self.assertFalse(path.with_suffix(".py").exists(), path)
            else:
                self.assertRegex(path.name, r"^[a-z0-9_]+\.py$")
                self.assertFalse(is_builtin(path.stem), path)
                self.assertFalse(path.stem.startswith(("test", "law_")), path)
        self.assertTrue((PACKAGE / "__init__.py").exists())

    def test_characters_and_sizes(self):
        for path in FILES:
            text = path.read_text(encoding="utf-8")
            self.assertRegex(text, r"\A[ -~\n]*\Z", path)
            lines = text.split("\n")
            self.assertLessEqual(len(lines), 400, path)
            self.assertLessEqual(max(len(line) for line in lines), 120, path)
            for node in nodes(path, ast.FunctionDef):
                self.assertLessEqual(node.end_lineno - node.lineno + 1, 40, node.name)

    def test_python_gives_no_warning(self):
        for path in FILES:
            with warnings.catch_warnings():
                warnings.simplefilter("error")
                compile(path.read_text(encoding="utf-8"), str(path), "exec")

    def test_words_that_stand_nowhere(self):
        for path in FILES:
            self.assertNotIn("_wall", path.read_text(encoding="utf-8"))
            for node in nodes(path, ast.Name, ast.Attribute, ast.arg, ast.FunctionDef):
                for name in [getattr(node, field, None) for field in ("id", "attr", "arg", "name")]:
                    self.assertNotIn(name, BARRED_NAMES | BARRED_WORDS, path)

    def test_strings(self):
        for path in FILES:
            for node in nodes(path, ast.Constant):
                if isinstance(node.value, str):
                    self.assertNotIn("%", node.value)
                    self.assertFalse(node.value.endswith(("._", ".__")), path)
                    self.assertNotIn(node.value, BARRED_WORDS - {"type"})
            self.assertEqual(re.findall(r"\\[^nt\\\"']", path.read_text(encoding="utf-8")), [])


class Modules(unittest.TestCase):
    def test_imports(self):
        for path in FILES:
            self.assertEqual(nodes(path, ast.Import), [], path)
            for node in nodes(path, ast.ImportFrom):
                self.assertEqual(node.level, 0, path)
                self.assertTrue(node.module.startswith("lassoproof."), path)
                for alias in node.names:
                    self.assertIsNone(alias.asname)
                    self.assertIn(alias.name, defined(module_path(node.module)), path)

    def test_imports_stand_at_the_top_and_are_used(self):
        for path in FILES:
            body = [node for node in parsed(path).body if not isinstance(node, ast.Expr)]
            places = [k for k, node in enumerate(body) if isinstance(node, ast.ImportFrom)]
            self.assertEqual(places, list(range(len(places))), path)
            used = [node.id for node in nodes(path, ast.Name)]
            for name in imported(path):
                self.assertIn(name, used, path)

    def test_no_files_import_from_each_other(self):
        graph = {
            module_name(path): [node.module for node in nodes(path, ast.ImportFrom)]
            for path in FILES
        }
        done = set()
        while len(done) < len(graph):
            ready = [name for name in graph if name not in done and done.issuperset(graph[name])]
            self.assertTrue(ready, "some files import from each other")
            done.update(ready)

    def test_module_level(self):
        for path in FILES:
            for k, node in enumerate(parsed(path).body):
                if isinstance(node, ast.Assign):
                    self.assertEqual(len(node.targets), 1)
                    self.assertIsInstance(node.targets[0], ast.Name)
                    value = node.value
                    if isinstance(value, ast.Dict):
                        self.assertTrue(all(map(is_plain, value.keys + value.values)), path)
                    elif isinstance(value, ast.List):
                        self.assertTrue(all(map(is_plain, value.elts)), path)
                    else:
                        self.assertTrue(is_plain(value), path)
                elif isinstance(node, ast.Expr):
                    self.assertEqual(k, 0, path)
                else:
                    self.assertIsInstance(node, (ast.ImportFrom, ast.FunctionDef, ast.ClassDef))

    def test_names_are_bound_once(self):
        for path in FILES:
            names = defined(path) + imported(path)
            self.assertEqual(sorted(names), sorted(set(names)), path)
            barred = set(imported(path))
            barred.update(node.name for node in nodes(path, ast.ClassDef))
            for node in nodes(path, ast.FunctionDef):
                self.assertFalse(barred & set(stored(node)[1:]), (path, node.name))


class Calls(unittest.TestCase):
    def test_default_values_are_plain(self):
        for path in FILES:
            for node in nodes(path, ast.FunctionDef):
                for value in node.args.defaults + node.args.kw_defaults:
                    self.assertTrue(value is None or isinstance(value, ast.Constant), node.name)
                self.assertIsNone(node.args.vararg or node.args.kwarg)

    def test_what_is_iterated_at_once(self):
        for path in FILES:
            at_once = [node.iter for node in nodes(path, ast.For, ast.comprehension)]
            for node in nodes(path, ast.Call):
                if isinstance(node.func, ast.Name) and node.func.id in ITERATING:
                    at_once += node.args
            allowed = {(node.lineno, node.col_offset) for node in at_once}
            for node in nodes(path, ast.Call, ast.GeneratorExp):
                if isinstance(node, ast.GeneratorExp) or iterates_once(node):
                    self.assertIn((node.lineno, node.col_offset), allowed, path)

    def test_loops_do_not_change_what_they_iterate_over(self):
        for path in FILES:
            for loop in nodes(path, ast.For):
                names = {node.id for node in ast.walk(loop.iter) if isinstance(node, ast.Name)}
                for statement in loop.body:
                    self.assertFalse(names & changed_in(statement), (path, loop.lineno))


def iterates_once(call):
    if isinstance(call.func, ast.Name):
        return call.func.id in ("zip", "enumerate", "reversed", "range")
    return isinstance(call.func, ast.Attribute) and call.func.attr in ("items", "keys", "values")


def changed_in(statement):
    """The names whose items a statement changes, or which it calls a changing method of."""
    names = set()
    for node in ast.walk(statement):
        target = None
        if isinstance(node, ast.Subscript) and not isinstance(node.ctx, ast.Load):
            target = node.value
        if isinstance(node, ast.Call) and isinstance(node.func, ast.Attribute):
            target = node.func.value if node.func.attr in CHANGING else None
        if isinstance(target, ast.Name):
            names.add(target.id)
    return names


class Statements(unittest.TestCase):
    def test_kinds_of_statements(self):
        for path in FILES:
            for node in nodes(path, ast.stmt):
                self.assertIsInstance(node, STATEMENTS, path)
            for node in nodes(path, ast.FunctionDef, ast.ClassDef):
                self.assertEqual(node.decorator_list, [])
            for node in nodes(path, ast.Expr):
                plain = isinstance(node.value, ast.Constant) and isinstance(node.value.value, str)
                self.assertTrue(plain or isinstance(node.value, ast.Call), path)

    def test_expressions_that_are_barred(self):
        barred = (ast.Set, ast.Await, ast.AnnAssign, ast.Div, ast.AsyncFor, ast.Global)
        for path in FILES:
            self.assertEqual(nodes(path, *barred), [], path)
            for node in nodes(path, ast.Constant):
                self.assertNotIsInstance(node.value, (float, complex, bytes), path)
            for node in nodes(path, ast.Is, ast.IsNot, ast.Compare):
                if isinstance(node, ast.Compare) and isinstance(node.ops[0], (ast.Is, ast.IsNot)):
                    self.assertIsInstance(node.comparators[0], ast.Constant, path)

    def test_errors_are_made_where_they_are_raised(self):
        for path in FILES:
            for node in nodes(path, ast.Raise):
                self.assertIsInstance(node.exc, ast.Call, path)
                self.assertIn(node.exc.func.id, imported(path))

    def test_builtins(self):
        for path in FILES:
            for node in nodes(path, ast.Name):
                if is_builtin(node.id):
                    self.assertIn(node.id, BUILTINS, path)
            for name in stored(parsed(path)):
                self.assertFalse(is_builtin(name), (path, name))

    def test_names(self):
        for path in FILES:
            for name in stored(parsed(path)):
                self.assertRegex(name, r"^(_|_?[A-Za-z][A-Za-z0-9_]*|__init__)$", path)
            for node in nodes(path, ast.Name):
                if node.id == "_":
                    self.assertIsInstance(node.ctx, ast.Store, path)

    def test_methods_and_attributes(self):
        own = {
            part.name for path in FILES for node in nodes(path, ast.ClassDef)
            for part in node.body if isinstance(part, ast.FunctionDef)
        }
        fields = {
            node.attr for path in FILES for node in nodes(path, ast.Attribute)
            if isinstance(node.ctx, ast.Store)
        }
        self.assertFalse(fields & BARRED_ATTRIBUTES)
        self.assertFalse(fields & own)
        for path in FILES:
            for node in nodes(path, ast.Call):
                if isinstance(node.func, ast.Attribute):
                    self.assertIn(node.func.attr, METHODS | own, path)
            for node in nodes(path, ast.Attribute):
                self.assertIn(node.attr, METHODS | own | fields, path)

    def test_sets_are_assigned_once_and_not_iterated(self):
        for path in FILES:
            for function in nodes(path, ast.FunctionDef):
                sets = [
                    node.targets[0].id for node in ast.walk(function)
                    if isinstance(node, ast.Assign) and is_set(node.value)
                ]
                self.assertEqual(len(sets), len(set(sets)))
                for node in ast.walk(function):
                    if isinstance(node, (ast.For, ast.comprehension)):
                        self.assertFalse(is_set(node.iter))
                        self.assertFalse(
                            isinstance(node.iter, ast.Name) and node.iter.id in sets,
                        )
                    if isinstance(node, ast.Return) and isinstance(node.value, ast.Name):
                        self.assertNotIn(node.value.id, sets)


def is_set(node):
    if isinstance(node, ast.Call) and isinstance(node.func, ast.Name):
        return node.func.id == "set"
    return isinstance(node, ast.SetComp)
