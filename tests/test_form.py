"""The mechanical part of what LANGUAGE.md asks of the files of the package."""

import ast
import unittest
from pathlib import Path

PACKAGE = Path(__file__).resolve().parent.parent / "pauseplaces"
LIBRARY = {"heapq", "math", "itertools", "collections"}
INTERFACE = {
    "shapes": {"is_shape": ["thing"], "is_state": ["shape", "thing"], "states": ["shape"]},
    "rows": {
        "is_row": ["shape", "thing"], "done": ["shape", "row", "state"],
        "loses": ["shape", "row"], "inverse": ["shape", "row"], "joined": ["shape", "row"],
    },
}


def sources():
    return [(path, path.read_text(encoding="utf-8")) for path in sorted(PACKAGE.rglob("*.py"))]


class FormTest(unittest.TestCase):
    def test_nothing_but_sources(self):
        others = [path for path in PACKAGE.rglob("*") if path.suffix != ".py"]
        self.assertEqual([path for path in others if "__pycache__" not in path.parts], [])
        self.assertTrue((PACKAGE / "__init__.py").is_file())

    def test_characters(self):
        for path, text in sources():
            odd = {sign for sign in text if sign != "\n" and not " " <= sign <= "~"}
            self.assertEqual(odd, set(), path)

    def test_sizes(self):
        for path, text in sources():
            lines = text.splitlines()
            self.assertLessEqual(len(lines), 399, path)
            self.assertLessEqual(max(map(len, lines)), 120, path)
            for node in ast.walk(ast.parse(text)):
                if isinstance(node, ast.FunctionDef):
                    self.assertLessEqual(node.end_lineno - node.lineno + 1, 40, (path, node.name))

    def test_imports(self):
        for path, text in sources():
            for node in ast.walk(ast.parse(text)):
                self.assertNotIsInstance(node, ast.Import, path)
                if isinstance(node, ast.ImportFrom):
                    first = node.module.split(".")[0]
                    self.assertEqual(node.level, 0, path)
                    self.assertIn(first, LIBRARY | {"pauseplaces"}, path)

    def test_interface_is_defined_where_it_is_listed(self):
        for module, functions in INTERFACE.items():
            tree = ast.parse((PACKAGE / f"{module}.py").read_text(encoding="utf-8"))
            found = {
                node.name: [arg.arg for arg in node.args.args]
                for node in tree.body if isinstance(node, ast.FunctionDef)}
            for name, parameters in functions.items():
                self.assertEqual(found.get(name), parameters, name)


if __name__ == "__main__":
    unittest.main()
