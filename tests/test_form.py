"""The form of the package's files, as far as it is easily told: ../shared/LANGUAGE.md."""

import ast
import pathlib
import unittest
import warnings

PACKAGE = pathlib.Path(__file__).resolve().parent.parent / "slitdiscs"
LIBRARY = {
    "heapq": {"heappush", "heappop", "heapify", "heapreplace", "heappushpop"},
    "math": {"gcd", "lcm", "isqrt", "comb", "perm", "factorial"},
    "itertools": {
        "product", "combinations", "permutations", "chain", "accumulate", "pairwise", "islice", "zip_longest",
    },
    "collections": {"defaultdict", "deque"},
}


def package_files():
    return sorted(path for path in PACKAGE.iterdir() if path.name != "__pycache__")


class FormTest(unittest.TestCase):
    def test_only_plain_files(self):
        for path in package_files():
            self.assertRegex(path.name, r"^(__init__|__main__|[a-z][a-z0-9_]*)\.py$")

    def test_size_and_characters(self):
        for path in package_files():
            lines = path.read_text(encoding="ascii").split("\n")
            self.assertLessEqual(len(lines), 400, path)
            for number, line in enumerate(lines, 1):
                self.assertLessEqual(len(line), 120, (path, number))
                self.assertTrue(line.isprintable(), (path, number))

    def test_functions(self):
        for path in package_files():
            with warnings.catch_warnings():
                warnings.simplefilter("error")
                tree = ast.parse(path.read_text())
                compile(tree, str(path), "exec")
            for node in ast.walk(tree):
                # A class has an __eq__, so a list stands where a generator expression might.
                self.assertNotIsInstance(node, (ast.Import, ast.AsyncFunctionDef, ast.Div, ast.GeneratorExp))
                if isinstance(node, ast.FunctionDef):
                    self.assertLessEqual(node.end_lineno - node.lineno + 1, 40, (path, node.name))
                if isinstance(node, ast.Constant):
                    self.assertNotIsInstance(node.value, (float, complex), path)

    def test_imports(self):
        for path in package_files():
            for node in ast.walk(ast.parse(path.read_text())):
                if not isinstance(node, ast.ImportFrom):
                    continue
                self.assertEqual(node.level, 0)
                names = {name.name for name in node.names}
                if node.module in LIBRARY:
                    self.assertLessEqual(names, LIBRARY[node.module])
                else:
                    self.check_own_import(node.module, names)

    def check_own_import(self, module, names):
        self.assertTrue(module.startswith("slitdiscs."), module)
        source = (PACKAGE / (module.partition(".")[2] + ".py")).read_text()
        tree = ast.parse(source)
        defined = {node.name for node in tree.body if isinstance(node, (ast.FunctionDef, ast.ClassDef))}
        values = [node for node in tree.body if isinstance(node, ast.Assign)]
        defined |= {target.id for node in values for target in node.targets}
        self.assertLessEqual(names, defined, module)
