"""Rules of the language that can be told from the files alone: L1, L2, L8, L10, L14, L15."""

import ast
import builtins
import unittest
from pathlib import Path

FOLDER = Path(__file__).resolve().parent.parent / "onefriend"
LIBRARY = {
    "heapq": {"heappush", "heappop", "heapify", "heapreplace", "heappushpop"},
    "math": {"gcd", "lcm", "isqrt", "comb", "perm", "factorial"},
    "itertools": {"product", "combinations", "permutations", "chain", "accumulate", "pairwise",
                  "islice", "zip_longest"},
    "collections": {"defaultdict", "deque"},
}
BUILTINS = set("""
    len range enumerate zip min max sum abs sorted reversed int str bool bytes list tuple dict set
    frozenset isinstance ord repr any all divmod pow getattr hasattr setattr iter next map type super
    property staticmethod classmethod NotImplemented Exception ValueError TypeError KeyError
    IndexError LookupError ZeroDivisionError ArithmeticError OverflowError RuntimeError
    NotImplementedError AttributeError StopIteration
""".split())


def files():
    return sorted(FOLDER.glob("*.py"))


def trees():
    return [(path.name, ast.parse(path.read_text(encoding="utf-8"))) for path in files()]


class LanguageTest(unittest.TestCase):
    def test_the_folder_holds_only_python_files(self):
        names = [path.name for path in FOLDER.iterdir() if path.name != "__pycache__"]
        self.assertEqual(sorted(names), [path.name for path in files()])
        self.assertIn("__init__.py", names)

    def test_sizes_and_characters(self):
        for path in files():
            lines = path.read_bytes().decode("ascii").split("\n")
            self.assertLessEqual(len(lines) - 1, 399, path.name)
            for number, line in enumerate(lines, start=1):
                self.assertLessEqual(len(line), 120, f"{path.name}:{number}")
                self.assertTrue(all(" " <= sign <= "~" for sign in line), f"{path.name}:{number}")

    def test_functions_have_at_most_forty_lines(self):
        for name, tree in trees():
            for node in ast.walk(tree):
                if isinstance(node, ast.FunctionDef):
                    many = node.end_lineno - node.lineno + 1
                    self.assertLessEqual(many, 40, f"{name}: {node.name}")

    def test_imports(self):
        for name, tree in trees():
            for node in ast.walk(tree):
                self.assertNotIsInstance(node, ast.Import, name)
                if isinstance(node, ast.ImportFrom) and not node.module.startswith("onefriend."):
                    names = {alias.name for alias in node.names}
                    self.assertLessEqual(names, LIBRARY.get(node.module, set()), name)

    def test_builtins(self):
        barred = set(dir(builtins)) - BUILTINS - {"__name__"}
        for name, tree in trees():
            used = {node.id for node in ast.walk(tree) if isinstance(node, ast.Name)}
            self.assertEqual(used & barred, set(), name)

    def test_no_variable_has_the_name_of_an_import_a_class_or_a_builtin(self):
        for name, tree in trees():
            taken = set(dir(builtins))
            bound = set()
            for node in ast.walk(tree):
                if isinstance(node, ast.ImportFrom):
                    taken.update(alias.name for alias in node.names)
                elif isinstance(node, ast.ClassDef):
                    taken.add(node.name)
                elif isinstance(node, ast.arg):
                    bound.add(node.arg)
                elif isinstance(node, ast.Name) and not isinstance(node.ctx, ast.Load):
                    bound.add(node.id)
            self.assertEqual(taken & bound, set(), name)


if __name__ == "__main__":
    unittest.main()
