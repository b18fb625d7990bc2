"""The package keeps to its small part of Python, as far as a look at its files can tell."""

import ast
import builtins
import pathlib
import re
import unittest

PACKAGE = pathlib.Path(__file__).resolve().parent.parent / "knownof"

STATEMENTS_AND_EXPRESSIONS = (
    ast.Module, ast.FunctionDef, ast.ClassDef, ast.arguments, ast.arg, ast.Assign, ast.AugAssign, ast.If, ast.While,
    ast.For, ast.Return, ast.Break, ast.Continue, ast.Pass, ast.Expr, ast.ImportFrom, ast.alias, ast.Name,
    ast.Constant, ast.List, ast.Tuple, ast.Dict, ast.BinOp, ast.UnaryOp, ast.BoolOp, ast.Compare, ast.IfExp, ast.Call,
    ast.Attribute, ast.Subscript, ast.Slice, ast.ListComp, ast.comprehension, ast.expr_context, ast.operator,
    ast.unaryop, ast.boolop, ast.cmpop)
OUT = (ast.Div, ast.MatMult, ast.Pow)
PYTHONS_OWN = set(
    "len range enumerate zip min max sum abs sorted reversed int str bool list tuple dict set isinstance repr any all "
    "divmod".split())
METHODS = set("append clear copy count extend get index insert items join keys pop remove reverse values".split())
WORDS = re.compile(
    r"\b(type|typing|typing_extensions|enum|Enum|IntEnum|StrEnum|Flag|IntFlag|Generic|Protocol|ABC|ABCMeta|namedtuple"
    r"|NamedTuple|TypedDict|TYPE_CHECKING|abstractmethod)\b|dataclass|overload|contextmanager")


def files():
    return sorted(path for path in PACKAGE.rglob("*") if path.is_file() and "__pycache__" not in path.parts)


def trees():
    return [(path.name, ast.parse(path.read_text("utf-8"))) for path in files()]


def nodes():
    return [(name, node) for name, tree in trees() for node in ast.walk(tree)]


class Files(unittest.TestCase):
    def test_names(self):
        self.assertTrue((PACKAGE / "__init__.py").is_file())
        for path in files():
            self.assertRegex(path.name, r"^(__init__|[a-z][a-z0-9_]*)\.py$")

    def test_signs_words_and_size(self):
        for path in files():
            text = path.read_text("utf-8")
            self.assertRegex(text, r"\A[ -~\n]*\Z", path.name)
            self.assertIsNone(WORDS.search(text), path.name)
            self.assertLessEqual(len(text.splitlines()), 400, path.name)
            self.assertLessEqual(max(len(line) for line in text.splitlines()), 120, path.name)


class Forms(unittest.TestCase):
    def test_only_plain_forms(self):
        for name, node in nodes():
            place = (name, getattr(node, "lineno", 0), ast.dump(node)[:80])
            self.assertIsInstance(node, STATEMENTS_AND_EXPRESSIONS, place)
            self.assertNotIsInstance(node, OUT, place)

    def test_functions(self):
        for name, node in nodes():
            if isinstance(node, ast.FunctionDef):
                place = (name, node.name)
                self.assertLessEqual(node.end_lineno - node.lineno + 1, 40, place)
                self.assertEqual((node.decorator_list, node.returns), ([], None), place)
                handed = node.args
                self.assertEqual((handed.vararg, handed.kwarg, handed.kwonlyargs, handed.posonlyargs),
                                 (None, None, [], []), place)

    def test_assignments_and_comprehensions(self):
        for name, node in nodes():
            place = (name, getattr(node, "lineno", 0))
            if isinstance(node, ast.Assign):
                self.assertEqual(len(node.targets), 1, place)
            if isinstance(node, ast.ListComp):
                self.assertEqual(len(node.generators), 1, place)
                self.assertLessEqual(len(node.generators[0].ifs), 1, place)
            if isinstance(node, (ast.For, ast.While)):
                self.assertEqual(node.orelse, [], place)
            if isinstance(node, ast.Constant):
                self.assertIn(node.value.__class__, (int, str, bool, None.__class__), place)
                self.assertNotIn("%", str(node.value), place)
            if isinstance(node, ast.Compare) and any(isinstance(op, (ast.Is, ast.IsNot)) for op in node.ops):
                self.assertIn(ast.unparse(node.comparators[0]), ("None", "True", "False"), place)


class Names(unittest.TestCase):
    def test_imports_are_the_packages_own(self):
        for name, node in nodes():
            if isinstance(node, ast.ImportFrom):
                self.assertEqual(node.level, 0, name)
                self.assertTrue(node.module.startswith("knownof."), name)
                self.assertTrue(all(alias.name != "*" and alias.asname is None for alias in node.names), name)

    def test_pythons_own_names(self):
        for name, node in nodes():
            if isinstance(node, ast.Name) and hasattr(builtins, node.id):
                self.assertIn(node.id, PYTHONS_OWN, (name, node.lineno))
                self.assertIsInstance(node.ctx, ast.Load, (name, node.lineno))

    def test_bound_names(self):
        for name, tree in trees():
            imported = {a.name for node in tree.body if isinstance(node, ast.ImportFrom) for a in node.names}
            classes = {node.name for node in tree.body if isinstance(node, ast.ClassDef)}
            for node in ast.walk(tree):
                bound = self.bound(node)
                if bound is not None and bound != "__init__":
                    self.assertFalse(bound.startswith("_"), (name, bound))
                    self.assertFalse(hasattr(builtins, bound), (name, bound))
                    self.assertNotIn(bound, imported, name)
                    if not isinstance(node, ast.ClassDef):
                        self.assertNotIn(bound, classes, name)

    def bound(self, node):
        if isinstance(node, ast.arg):
            return node.arg
        if isinstance(node, (ast.FunctionDef, ast.ClassDef)):
            return node.name
        return node.id if isinstance(node, ast.Name) and isinstance(node.ctx, ast.Store) else None

    def test_top_names_are_bound_once(self):
        for name, tree in trees():
            bound = [found for found in [self.bound(node) for node in tree.body] if found is not None]
            bound += [node.targets[0].id for node in tree.body if isinstance(node, ast.Assign)]
            self.assertEqual(len(bound), len(set(bound)), name)

    def test_methods(self):
        for name, node in nodes():
            if isinstance(node, ast.Call) and isinstance(node.func, ast.Attribute):
                self.assertIn(node.func.attr, METHODS, (name, node.lineno))


if __name__ == "__main__":
    unittest.main()
