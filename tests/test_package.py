"""The package uses no clock, chance or file: it imports only itself, and calls plain builtins only."""

import ast
import builtins
import pathlib
import unittest

FOLDER = pathlib.Path(__file__).resolve().parent.parent / "flatroom"
FILES = sorted(FOLDER.rglob("*.py"))
ALLOWED = set(
    "len range enumerate zip min max sum abs sorted reversed int str bool list tuple dict set frozenset isinstance"
    " ord repr any all divmod Exception ValueError TypeError KeyError IndexError LookupError ZeroDivisionError"
    " ArithmeticError OverflowError RuntimeError NotImplementedError AttributeError NotImplemented super property"
    " staticmethod classmethod".split()
)


class Package(unittest.TestCase):
    def trees(self):
        return [(path.name, ast.parse(path.read_text(encoding="ascii"))) for path in FILES]

    def test_the_modules_stand_in_the_package(self):
        names = [path.name for path in FILES]
        told = "__init__ errors forms lying meeting counting tables turning chains answers rows widths crossing bases"
        self.assertEqual(sorted(names), sorted(name + ".py" for name in told.split()))

    def test_it_imports_only_itself(self):
        for name, tree in self.trees():
            for node in ast.walk(tree):
                self.assertNotIsInstance(node, ast.Import, name)
                if isinstance(node, ast.ImportFrom):
                    self.assertEqual(node.level, 0, name)
                    self.assertTrue(node.module.startswith("flatroom."), (name, node.module))

    def test_it_uses_no_builtin_that_reaches_outside(self):
        for name, tree in self.trees():
            used = {node.id for node in ast.walk(tree) if isinstance(node, ast.Name)}
            self.assertEqual({word for word in used if hasattr(builtins, word)} - ALLOWED, set(), name)

    def test_it_raises_to_no_power_by_a_sign(self):
        for name, tree in self.trees():
            self.assertFalse([node for node in ast.walk(tree) if isinstance(node, ast.Pow)], name)

    def test_it_keeps_nothing_between_calls(self):
        # What stands at the top of a file is numbers, and tuples of numbers, which nothing can change.
        for name, tree in self.trees():
            for node in tree.body:
                self.assertIsInstance(node, (ast.Expr, ast.ImportFrom, ast.FunctionDef, ast.ClassDef, ast.Assign), name)
                if isinstance(node, ast.Assign):
                    kinds = {type(part) for part in ast.walk(node.value)}
                    self.assertLessEqual(kinds, {ast.Constant, ast.Tuple, ast.Load}, name)

    def test_it_keeps_its_sizes(self):
        for path in FILES:
            lines = path.read_text(encoding="ascii").splitlines()
            self.assertLessEqual(len(lines), 400, path.name)
            self.assertFalse([line for line in lines if len(line) > 120 or "\t" in line], path.name)
        for name, tree in self.trees():
            for node in ast.walk(tree):
                if isinstance(node, ast.FunctionDef):
                    self.assertLessEqual(node.end_lineno - node.lineno + 1, 40, (name, node.name))


if __name__ == "__main__":
    unittest.main()
