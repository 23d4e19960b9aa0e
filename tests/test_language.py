"""The package keeps to ../shared/LANGUAGE.md, as far as a plain reading of its files shows it."""

import ast
import builtins
import pathlib
import re
import unittest

PACKAGE = pathlib.Path(__file__).resolve().parent.parent / "bothtimes"
CALLED = set("""len range enumerate zip min max sum abs sorted reversed int str bool list tuple dict set isinstance ord
    repr any all divmod iter next""".split())
ERRORS = set("""Exception ValueError TypeError KeyError IndexError LookupError ZeroDivisionError ArithmeticError
    OverflowError RuntimeError NotImplementedError NotImplemented""".split())
METHODS = set("""append clear copy count endswith extend find get index insert isalnum isalpha isdigit islower isspace
    isupper items join keys ljust lower lstrip partition pop remove replace reverse rfind rjust rpartition rsplit rstrip
    setdefault split splitlines startswith strip update upper values zfill bit_length add discard __init__""".split())
TAKE_LISTS = {"any", "all", "min", "max", "sum", "sorted"}
BARRED = """type typing typing_extensions enum Enum IntEnum StrEnum Flag IntFlag Generic Protocol ABC ABCMeta namedtuple
    NamedTuple TypedDict TYPE_CHECKING abstractmethod""".split()
BARRED_NODES = (ast.Global, ast.AsyncFunctionDef, ast.Await, ast.AsyncFor, ast.AsyncWith, ast.Div, ast.Import)
DUNDERS = {"__init__", "__eq__", "__repr__", "__str__", "__len__", "__enter__", "__exit__", "__call__", "__iter__"}


def files():
    return sorted(path for path in PACKAGE.rglob("*") if path.is_file() and "__pycache__" not in path.parts)


def trees():
    return [(path.name, ast.parse(path.read_text("utf-8"))) for path in files()]


def bound_at_top(tree):
    """The names that a file defines itself."""
    names = []
    for node in tree.body:
        if isinstance(node, (ast.FunctionDef, ast.ClassDef)):
            names.append(node.name)
        elif isinstance(node, ast.Assign):
            names += [target.id for target in node.targets]
    return names


def imported(tree):
    return [(node.module, name) for node in tree.body if isinstance(node, ast.ImportFrom) for name in node.names]


def bound_names(tree):
    """All names that are bound anywhere in a file, but attributes."""
    for node in ast.walk(tree):
        if isinstance(node, ast.Name) and isinstance(node.ctx, ast.Store):
            yield node.id
        elif isinstance(node, ast.arg):
            yield node.arg
        elif isinstance(node, (ast.FunctionDef, ast.ClassDef)) and node.name not in DUNDERS:
            yield node.name


class Files(unittest.TestCase):
    def test_files_and_sizes(self):
        for path in files():
            self.assertRegex(path.name, r"^[a-z_][a-z0-9_]*\.py$")
            text = path.read_text("utf-8")
            self.assertIsNone(re.search(r"[^\n -~]", text), path.name)
            rows = text.split("\n")
            self.assertLessEqual(len(rows), 399, path.name)
            self.assertLessEqual(max(map(len, rows)), 120, path.name)
            for word in BARRED:
                self.assertIsNone(re.search(rf"\b{word}\b", text), (path.name, word))

    def test_functions_are_short(self):
        for name, tree in trees():
            for node in ast.walk(tree):
                if isinstance(node, ast.FunctionDef):
                    self.assertLessEqual(node.end_lineno - node.lineno + 1, 40, (name, node.name))


class Imports(unittest.TestCase):
    def test_each_names_the_file_that_defines_the_name(self):
        own = {"bothtimes." + name[:-3]: bound_at_top(tree) for name, tree in trees()}
        for name, tree in trees():
            for module, given in imported(tree):
                self.assertIn(module, own, name)
                self.assertIn(given.name, own[module], name)
                self.assertIsNone(given.asname, name)

    def test_no_two_files_import_from_each_other(self):
        needs = {"bothtimes." + name[:-3]: {module for module, given in imported(tree)} for name, tree in trees()}
        while needs:
            free = [name for name in needs if not needs[name] & set(needs)]
            self.assertTrue(free, sorted(needs))
            for name in free:
                del needs[name]

    def test_each_name_is_bound_once_at_the_top(self):
        for name, tree in trees():
            names = bound_at_top(tree) + [given.name for module, given in imported(tree)]
            self.assertEqual(len(names), len(set(names)), name)


class Words(unittest.TestCase):
    def test_names(self):
        for name, tree in trees():
            for bound in bound_names(tree):
                self.assertFalse(bound.startswith("_"), (name, bound))
                self.assertNotIn(bound, dir(builtins), name)

    def test_builtins_and_methods(self):
        own = {bound for name, tree in trees() for bound in bound_names(tree)}
        for name, tree in trees():
            for node in ast.walk(tree):
                if isinstance(node, ast.Name) and node.id in dir(builtins):
                    self.assertIn(node.id, CALLED | ERRORS, (name, node.lineno))
                if isinstance(node, ast.Call) and isinstance(node.func, ast.Attribute):
                    self.assertIn(node.func.attr, METHODS | own, (name, node.lineno))

    def test_nodes(self):
        for name, tree in trees():
            for node in ast.walk(tree):
                where = (name, getattr(node, "lineno", 0))
                self.assertNotIsInstance(node, BARRED_NODES, where)
                if isinstance(node, ast.Constant):
                    self.assertNotIsInstance(node.value, (float, complex), where)
                    self.assertFalse(isinstance(node.value, str) and "%" in node.value, where)
                if isinstance(node, ast.Compare):
                    for sign, right in zip(node.ops, node.comparators):
                        if isinstance(sign, (ast.Is, ast.IsNot)):
                            self.assertIn(repr(getattr(right, "value", right)), ("None", "True", "False"), where)

    def test_lists_where_a_class_compares(self):
        for name, tree in trees():
            for node in ast.walk(tree):
                if isinstance(node, ast.Call) and getattr(node.func, "id", "") in TAKE_LISTS:
                    for given in node.args:
                        self.assertNotIsInstance(given, ast.GeneratorExp, (name, node.lineno))


def functions(tree):
    return [node for node in ast.walk(tree) if isinstance(node, ast.FunctionDef)]


def classes():
    return [node for name, tree in trees() for node in tree.body if isinstance(node, ast.ClassDef)]


class Names(unittest.TestCase):
    def test_no_local_has_the_name_of_an_import_or_a_class(self):
        for name, tree in trees():
            taken = {given.name for module, given in imported(tree)}
            taken |= {node.name for node in tree.body if isinstance(node, ast.ClassDef)}
            for made in functions(tree):
                inner = {node.arg for node in ast.walk(made) if isinstance(node, ast.arg)}
                inner |= {node.id for node in ast.walk(made) if isinstance(node, ast.Name) and isinstance(node.ctx, ast.Store)}
                self.assertEqual(inner & taken, set(), (name, made.name))

    def test_no_name_is_a_method_and_an_attribute(self):
        methods = {made.name for found in classes() for made in functions(found)}
        reads = [node for name, tree in trees() for node in ast.walk(tree) if isinstance(node, ast.Attribute)]
        set_ones = {node.attr for node in reads if isinstance(node.ctx, ast.Store)}
        self.assertEqual(methods & set_ones, set())
        for node in reads:
            self.assertIn(node.attr, methods | set_ones | METHODS, node.lineno)

    def test_no_keyword_for_methods_of_builtin_values(self):
        for name, tree in trees():
            for node in ast.walk(tree):
                if isinstance(node, ast.Call) and getattr(node.func, "attr", "") in METHODS:
                    self.assertEqual(node.keywords, [], (name, node.lineno))

    def test_imports_are_used(self):
        for name, tree in trees():
            used = {node.id for node in ast.walk(tree) if isinstance(node, ast.Name)}
            self.assertEqual({given.name for module, given in imported(tree)} - used, set(), name)


class Refusals(unittest.TestCase):
    def test_raised_on_the_spot(self):
        own = {found.name for found in classes()}
        for name, tree in trees():
            for node in ast.walk(tree):
                if isinstance(node, ast.Raise):
                    self.assertIsInstance(node.exc, ast.Call, (name, node.lineno))
                    self.assertIn(node.exc.func.id, own, (name, node.lineno))
                    self.assertFalse([given for given in node.exc.args if isinstance(given, ast.Starred)])

    def test_own_ones_alone_are_caught(self):
        own = {found.name for found in classes()}
        for name, tree in trees():
            for node in ast.walk(tree):
                if isinstance(node, ast.ExceptHandler):
                    caught = node.type.elts if isinstance(node.type, ast.Tuple) else [node.type]
                    self.assertTrue(all(part.id in own for part in caught), (name, node.lineno))

    def test_finally_sets_plain_values(self):
        for name, tree in trees():
            for node in ast.walk(tree):
                for row in node.finalbody if isinstance(node, ast.Try) else ():
                    self.check_plain(row, (name, row.lineno))

    def check_plain(self, row, where):
        if isinstance(row, ast.If):
            self.assertIsInstance(row.test.ops[0], (ast.Is, ast.IsNot), where)
            self.assertIsNone(row.test.comparators[0].value, where)
            for inner in row.body + row.orelse:
                self.check_plain(inner, where)
        else:
            self.assertIsInstance(row, ast.Assign, where)
            self.assertIsInstance(row.targets[0], (ast.Name, ast.Attribute), where)
            self.assertIsInstance(row.value, (ast.Name, ast.Attribute, ast.Constant), where)


class Dunders(unittest.TestCase):
    def test_allowed_ones_that_end_in_a_plain_return(self):
        for found in classes():
            for made in functions(found):
                if made.name.startswith("__"):
                    self.assertIn(made.name, DUNDERS)
                if made.name in ("__len__", "__str__", "__repr__"):
                    self.assertEqual([type(row) for row in made.body], [ast.Return])
                    told = made.body[0].value
                    if made.name == "__len__":
                        self.assertEqual(told.func.id, "len")
                    else:
                        self.assertTrue(isinstance(told, ast.JoinedStr) or told.func.id in ("str", "repr"))
                if made.name == "__init__":
                    self.assertFalse([node for node in ast.walk(made) if isinstance(node, ast.Return)])

    def test_no_generators(self):
        for name, tree in trees():
            for node in ast.walk(tree):
                self.assertNotIsInstance(node, (ast.Yield, ast.YieldFrom, ast.GeneratorExp), name)


if __name__ == "__main__":
    unittest.main()
