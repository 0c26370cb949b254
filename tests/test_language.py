"""The package keeps to the small part of Python that is asked for, as far as its syntax tree shows it.

The number ahead of each check is that of the rule in LANGUAGE.md. What is not checked here is still asked for.
"""

import ast
import builtins
import pathlib
import re
import unittest

PACKAGE = pathlib.Path(__file__).resolve().parent.parent / "canonwright"
FILES = sorted(PACKAGE.rglob("*.py"))

STATEMENTS = (ast.Assign, ast.AugAssign, ast.If, ast.While, ast.For, ast.Return, ast.Break, ast.Continue, ast.Pass,
              ast.Raise, ast.Try, ast.Expr, ast.FunctionDef, ast.ClassDef, ast.ImportFrom)
EXPRESSIONS = (ast.Constant, ast.Name, ast.List, ast.Tuple, ast.Dict, ast.Set, ast.BinOp, ast.UnaryOp, ast.BoolOp,
               ast.Compare, ast.IfExp, ast.Call, ast.Attribute, ast.Subscript, ast.Slice, ast.ListComp, ast.JoinedStr,
               ast.FormattedValue, ast.Lambda)
OWN_NAMES = set("""len range enumerate zip min max sum abs sorted reversed int str bool list tuple dict set frozenset
isinstance ord repr any all divmod Exception ValueError TypeError KeyError IndexError LookupError ZeroDivisionError
ArithmeticError OverflowError RuntimeError NotImplementedError AttributeError StopIteration""".split())
OWN_METHODS = set("""append clear copy count endswith extend find get index insert isalnum isalpha isdigit islower
isspace isupper items join keys ljust lower lstrip partition pop remove replace reverse rfind rjust rpartition rsplit
rstrip setdefault split splitlines startswith strip update upper values zfill bit_length""".split())
METHODS_WITH_TWO = ("__init__", "__eq__", "__repr__", "__str__", "__len__")
WORDS = re.compile(r"\b(type|typing|typing_extensions|enum|Enum|IntEnum|StrEnum|Flag|IntFlag|Generic|Protocol|ABC|ABCMeta"
                   r"|namedtuple|NamedTuple|TypedDict|TYPE_CHECKING|abstractmethod)\b|dataclass|overload|contextmanager")


def trees():
    return [(path.name, ast.parse(path.read_text(encoding="utf-8"))) for path in FILES]


def nodes(*kinds):
    return [(name, node) for name, tree in trees() for node in ast.walk(tree) if isinstance(node, kinds)]


def top_names(tree):
    found = []
    for node in tree.body:
        if isinstance(node, (ast.FunctionDef, ast.ClassDef)):
            found.append(node.name)
        if isinstance(node, ast.Assign):
            found.append(node.targets[0].id)
    return found


def bound_names(tree):
    found = set(top_names(tree))
    for node in ast.walk(tree):
        if isinstance(node, ast.ImportFrom):
            found.update(alias.name for alias in node.names)
        if isinstance(node, ast.arg):
            found.add(node.arg)
        if isinstance(node, ast.Name) and isinstance(node.ctx, ast.Store):
            found.add(node.id)
        if isinstance(node, ast.FunctionDef):
            found.add(node.name)
        if isinstance(node, ast.ExceptHandler) and node.name:
            found.add(node.name)
    return found


class Language(unittest.TestCase):
    def test_l1_l14_files_and_signs(self):
        others = [path for path in PACKAGE.rglob("*") if "__pycache__" not in path.parts and path not in FILES]
        self.assertEqual(others, [])
        self.assertTrue((PACKAGE / "__init__.py").is_file())
        for path in FILES:
            self.assertRegex(path.name, r"^[a-z0-9_]+\.py$")
            self.assertNotIn(path.stem, dir(builtins))
            self.assertRegex(path.read_text(encoding="utf-8"), r"\A[ -~\n]*\Z")

    def test_l2_l16_imports_come_from_the_defining_file(self):
        defined = {f"canonwright.{name[:-3]}": top_names(tree) for name, tree in trees()}
        for name, node in nodes(ast.ImportFrom):
            self.assertEqual(node.level, 0, name)
            for alias in node.names:
                self.assertIsNone(alias.asname, name)
                self.assertIn(alias.name, defined[node.module], name)

    def test_l16_no_two_files_draw_from_one_another(self):
        drawn = {name[:-3]: {node.module.split(".")[1] for node in tree.body if isinstance(node, ast.ImportFrom)}
                 for name, tree in trees()}
        while drawn:
            free = [name for name in drawn if not drawn[name] & set(drawn)]
            self.assertNotEqual(free, [], drawn)
            drawn = {name: drawn[name] for name in drawn if name not in free}

    def test_l3_l15_the_top_of_a_module(self):
        for name, tree in trees():
            self.assertIsInstance(ast.get_docstring(tree), str, name)
            for node in tree.body[1:]:
                self.assertIsInstance(node, (ast.ImportFrom, ast.FunctionDef, ast.ClassDef, ast.Assign), name)
            names = top_names(tree)
            self.assertEqual(len(names), len(set(names)), name)

    def test_l4_l21_functions(self):
        for name, node in nodes(ast.FunctionDef):
            where = (name, node.lineno)
            self.assertEqual((node.decorator_list, node.returns), ([], None), where)
            self.assertEqual((node.args.vararg, node.args.kwarg, node.args.kwonlyargs, node.args.posonlyargs),
                             (None, None, [], []), where)
            self.assertEqual([arg for arg in node.args.args if arg.annotation], [], where)

    def test_l5_classes(self):
        for name, node in nodes(ast.ClassDef):
            where = (name, node.lineno)
            self.assertEqual((node.decorator_list, node.keywords), ([], []), where)
            self.assertLessEqual(len(node.bases), 1, where)
            for inner in node.body:
                self.assertIsInstance(inner, (ast.FunctionDef, ast.Pass), where)

    def test_l6_statements(self):
        for name, node in nodes(ast.stmt):
            where = (name, node.lineno)
            self.assertIsInstance(node, STATEMENTS, where)
            if isinstance(node, ast.Assign):
                self.assertEqual(len(node.targets), 1, where)
            if isinstance(node, (ast.For, ast.While)):
                self.assertEqual(node.orelse, [], where)
            if isinstance(node, ast.Try):
                self.assertEqual(node.finalbody, [], where)

    def test_l7_l27_expressions(self):
        for name, node in nodes(ast.expr):
            where = (name, node.lineno)
            self.assertIsInstance(node, EXPRESSIONS, where)
            if isinstance(node, ast.ListComp):
                self.assertEqual(len(node.generators), 1, where)
                self.assertLessEqual(len(node.generators[0].ifs), 1, where)
            if isinstance(node, ast.BinOp):
                self.assertNotIsInstance(node.op, (ast.Div, ast.MatMult), where)
            if isinstance(node, ast.Constant):
                self.assertIn(type(node.value), (int, str, bool, type(None)), where)
                self.assertNotIn("%", str(node.value), where)

    def test_l8_names_of_pythons_own(self):
        for name, tree in trees():
            known = bound_names(tree)
            self.assertEqual(known & set(dir(builtins)), set(), name)
            for node in ast.walk(tree):
                if isinstance(node, ast.Name):
                    self.assertIn(node.id, known | OWN_NAMES, (name, node.lineno))

    def test_l10_size(self):
        for path in FILES:
            rows = path.read_text(encoding="utf-8").split("\n")
            self.assertLessEqual(len(rows), 400, path.name)
            self.assertLessEqual(max(len(row) for row in rows), 120, path.name)
        for name, node in nodes(ast.FunctionDef):
            self.assertLessEqual(node.end_lineno - node.lineno + 1, 40, (name, node.name))

    def test_l12_plain_names(self):
        for name, tree in trees():
            for found in bound_names(tree) - set(METHODS_WITH_TWO):
                self.assertRegex(found, r"^[A-Za-z][A-Za-z0-9_]*$", name)

    def test_l15_no_local_is_called_like_an_import_or_a_class(self):
        for name, tree in trees():
            taken = {node.name for node in tree.body if isinstance(node, ast.ClassDef)}
            taken |= {alias.name for node in tree.body if isinstance(node, ast.ImportFrom) for alias in node.names}
            for node in ast.walk(tree):
                if isinstance(node, ast.arg):
                    self.assertNotIn(node.arg, taken, (name, node.lineno))
                if isinstance(node, ast.Name) and isinstance(node.ctx, ast.Store):
                    self.assertNotIn(node.id, taken, (name, node.lineno))

    def test_l17_words(self):
        for path in FILES:
            self.assertIsNone(WORDS.search(path.read_text(encoding="utf-8")), path.name)

    def test_l18_no_name_is_a_method_and_a_value(self):
        methods = {inner.name for name, node in nodes(ast.ClassDef) for inner in node.body
                   if isinstance(inner, ast.FunctionDef)}
        values = {node.attr for name, node in nodes(ast.Attribute) if isinstance(node.ctx, ast.Store)}
        self.assertEqual(methods & values, set())

    def test_l20_is(self):
        for name, node in nodes(ast.Compare):
            for op, right in zip(node.ops, node.comparators):
                if isinstance(op, (ast.Is, ast.IsNot)):
                    self.assertIsInstance(right, ast.Constant, (name, node.lineno))
                    self.assertIn(right.value, (None, True, False), (name, node.lineno))

    def test_l25_methods(self):
        own = {inner.name for name, node in nodes(ast.ClassDef) for inner in node.body
               if isinstance(inner, ast.FunctionDef)}
        for name, node in nodes(ast.Call):
            if isinstance(node.func, ast.Attribute):
                self.assertIn(node.func.attr, own | OWN_METHODS, (name, node.lineno))


if __name__ == "__main__":
    unittest.main()
