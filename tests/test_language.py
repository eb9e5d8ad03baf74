"""What can be seen by a walk through the package's files of the rules in LANGUAGE.md."""

import ast
import builtins
import pathlib
import re
import unittest

PACKAGE = pathlib.Path(__file__).resolve().parent.parent / "foodwebs"

NODES = set("""
Module Expr Assign AugAssign If While For Return Break Continue Pass Raise Try ExceptHandler FunctionDef Lambda
ClassDef arguments arg ImportFrom alias Constant List Tuple Dict Name Attribute Subscript Slice Call keyword
BinOp UnaryOp BoolOp Compare IfExp ListComp comprehension JoinedStr FormattedValue Load Store
Add Sub Mult FloorDiv Mod Pow BitAnd BitOr BitXor LShift RShift Invert Not USub UAdd And Or
Eq NotEq Lt LtE Gt GtE Is IsNot In NotIn
""".split())

OWN_NAMES = set("""
len range enumerate zip min max sum abs sorted reversed int str bool list tuple dict set frozenset isinstance ord
repr any all divmod Exception ValueError TypeError KeyError IndexError LookupError ZeroDivisionError
ArithmeticError OverflowError RuntimeError NotImplementedError AttributeError StopIteration
""".split())

OWN_METHODS = set("""
append clear copy count endswith extend find get index insert isalnum isalpha isdigit islower isspace isupper items
join keys ljust lower lstrip partition pop remove replace reverse rfind rjust rpartition rsplit rstrip setdefault
split splitlines startswith strip update upper values zfill bit_length
""".split())

NOT_USED = set("""
register mro elements open input version_info with_traceback add_note attrgetter breakpoint builtins compile copyright
credits delattr dir eval exec exit gc getattr globals hasattr help id importlib license locals methodcaller os quit
setattr super type vars sys format format_map
""".split())

WORDS = set("""
type typing typing_extensions enum Enum IntEnum StrEnum Flag IntFlag Generic Protocol ABC ABCMeta namedtuple NamedTuple
TypedDict TYPE_CHECKING abstractmethod
""".split())

CHANGES = {"append", "clear", "extend", "insert", "pop", "remove", "reverse", "setdefault", "update"}


def files():
    return sorted(path for path in PACKAGE.rglob("*") if "__pycache__" not in path.parts)


def source(path):
    return path.read_text(encoding="utf-8")


def walked():
    for path in files():
        for node in ast.walk(ast.parse(source(path))):
            yield path, node


def top_values(tree):
    return {node.targets[0].id: node.value for node in tree.body if isinstance(node, ast.Assign)}


class Files(unittest.TestCase):
    def test_names(self):
        names = [str(path.relative_to(PACKAGE)) for path in files()]
        self.assertIn("__init__.py", names)
        self.assertIn("pond.py", names)
        self.assertNotIn("__main__.py", names)
        for name in names:
            self.assertRegex(name, r"^(__init__|[a-z][a-z0-9_]*)\.py$")

    def test_signs_and_sizes(self):
        for path in files():
            text = source(path)
            self.assertRegex(text, r"\A[ -~\n]*\Z")
            rows = text.split("\n")
            self.assertLessEqual(len(rows), 400)
            self.assertLessEqual(max(len(row) for row in rows), 120)

    def test_words(self):
        for path in files():
            found = set(re.findall(r"\w+", source(path)))
            self.assertEqual(found & WORDS, set())
            for part in ("dataclass", "overload", "contextmanager"):
                self.assertNotIn(part, source(path))


class Code(unittest.TestCase):
    def test_nodes(self):
        for path, node in walked():
            self.assertIn(node.__class__.__name__, NODES, (path.name, getattr(node, "lineno", 0)))

    def test_nothing_is_imported_from_elsewhere(self):
        for path, node in walked():
            if isinstance(node, ast.ImportFrom):
                self.assertEqual(node.level, 0)
                self.assertTrue(node.module.startswith("foodwebs."), node.module)

    def test_imports_come_from_the_file_that_defines_the_name_and_in_no_ring(self):
        drawn = {path.stem: set() for path in files()}
        for path, node in walked():
            if isinstance(node, ast.ImportFrom):
                stem = node.module.partition(".")[2]
                drawn[path.stem].add(stem)
                tree = ast.parse(source(PACKAGE / (stem + ".py")))
                defined = {inner.name for inner in tree.body if isinstance(inner, (ast.FunctionDef, ast.ClassDef))}
                self.assertLessEqual({alias.name for alias in node.names}, defined | set(top_values(tree)))
        left = dict(drawn)
        while left:
            free = [stem for stem, others in left.items() if not others & set(left)]
            self.assertNotEqual(free, [], "files draw from one another")
            left = {stem: others for stem, others in left.items() if stem not in free}

    def test_no_local_is_called_like_an_import_a_class_or_a_function_of_its_file(self):
        for path in files():
            tree = ast.parse(source(path))
            taken = {alias.name for node in tree.body if isinstance(node, ast.ImportFrom) for alias in node.names}
            taken |= {node.name for node in tree.body if isinstance(node, (ast.ClassDef, ast.FunctionDef))}
            for node in ast.walk(tree):
                if isinstance(node, ast.arg):
                    self.assertNotIn(node.arg, taken)
                if isinstance(node, ast.Name) and isinstance(node.ctx, ast.Store):
                    self.assertNotIn(node.id, taken)

    def test_names(self):
        for path, node in walked():
            name = getattr(node, "id", None) or getattr(node, "attr", None) or getattr(node, "arg", None)
            if isinstance(node, (ast.FunctionDef, ast.ClassDef)):
                name = node.name
            if name is None or name == "__init__":
                continue
            self.assertRegex(name, r"^[A-Za-z][A-Za-z0-9_]*$")
            self.assertNotIn(name, NOT_USED)
            if isinstance(node, ast.Name) and isinstance(node.ctx, ast.Load):
                self.assertTrue(name in OWN_NAMES or not hasattr(builtins, name), name)
            elif not isinstance(node, (ast.Attribute, ast.keyword)):
                self.assertFalse(hasattr(builtins, name), name)

    def test_functions(self):
        for path, node in walked():
            if isinstance(node, ast.FunctionDef):
                self.assertLessEqual(node.end_lineno - node.lineno + 1, 40, node.name)
                self.assertEqual(node.decorator_list, [])
                rest = node.args
                self.assertFalse(rest.vararg or rest.kwarg or rest.kwonlyargs or rest.posonlyargs, node.name)

    def test_statements(self):
        for path, node in walked():
            where = (path.name, getattr(node, "lineno", 0))
            if isinstance(node, ast.Assign):
                self.assertEqual(len(node.targets), 1, where)
            if isinstance(node, (ast.For, ast.While)):
                self.assertEqual(node.orelse, [], where)
            if isinstance(node, ast.ListComp):
                self.assertEqual(len(node.generators), 1, where)
                self.assertLessEqual(len(node.generators[0].ifs), 1, where)
            if isinstance(node, ast.Constant):
                self.assertIn(node.value.__class__, (int, str, bool, None.__class__), where)
            if isinstance(node, ast.Compare) and isinstance(node.ops[0], (ast.Is, ast.IsNot)):
                self.assertIsInstance(node.comparators[0].value, (bool, None.__class__), where)

    def test_methods(self):
        own = {node.name for path, node in walked() if isinstance(node, ast.FunctionDef)}
        for path, node in walked():
            if isinstance(node, ast.Call) and isinstance(node.func, ast.Attribute):
                self.assertIn(node.func.attr, OWN_METHODS | own)

    def test_top_of_a_file(self):
        for path in files():
            tree = ast.parse(source(path))
            names = [node.targets[0].id for node in tree.body if isinstance(node, ast.Assign)]
            names += [node.name for node in tree.body if isinstance(node, (ast.FunctionDef, ast.ClassDef))]
            self.assertEqual(len(names), len(set(names)))
            for node in tree.body:
                self.assertIsInstance(node, (ast.Expr, ast.ImportFrom, ast.Assign, ast.FunctionDef, ast.ClassDef))
                if isinstance(node, ast.Expr):
                    self.assertIsInstance(node.value, ast.Constant)

    def test_lists_and_dicts_of_a_file_s_top_are_only_indexed_or_asked_with_in(self):
        for path in files():
            tree = ast.parse(source(path))
            kept = {name for name, value in top_values(tree).items() if isinstance(value, (ast.List, ast.Dict))}
            indexed = {id(node.value) for node in ast.walk(tree)
                       if isinstance(node, ast.Subscript) and isinstance(node.ctx, ast.Load)}
            indexed |= {id(node.comparators[0]) for node in ast.walk(tree)
                        if isinstance(node, ast.Compare) and isinstance(node.ops[0], (ast.In, ast.NotIn))}
            for node in ast.walk(tree):
                if isinstance(node, ast.Name) and node.id in kept and isinstance(node.ctx, ast.Load):
                    self.assertIn(id(node), indexed, node.id)

    def test_no_loop_changes_what_it_walks(self):
        for path, node in walked():
            if isinstance(node, ast.For):
                walks = ast.unparse(node.iter)
                for inner in ast.walk(node):
                    if isinstance(inner, ast.Call) and isinstance(inner.func, ast.Attribute):
                        if inner.func.attr in CHANGES:
                            self.assertNotEqual(ast.unparse(inner.func.value), walks, (path.name, node.lineno))


if __name__ == "__main__":
    unittest.main()
