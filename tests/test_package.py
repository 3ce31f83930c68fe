import ast
import pathlib
import unittest

import knell

FOLDER = pathlib.Path(knell.__file__).parent


class Package(unittest.TestCase):

    def test_nothing_is_drawn_from_outside(self):
        # A clock, chance or files could only come in by an import or by open.
        for path in sorted(FOLDER.rglob("*.py")):
            with self.subTest(path=path.name):
                for node in ast.walk(ast.parse(path.read_text())):
                    self.assertNotIsInstance(node, ast.Import)
                    if isinstance(node, ast.ImportFrom):
                        self.assertEqual(node.level, 0)
                        self.assertEqual(node.module.split(".")[0], "knell")
                    if isinstance(node, ast.Name):
                        self.assertNotIn(node.id, ("open", "input", "hash", "id", "__import__"))

    def test_no_fraction_is_reckoned_with(self):
        for path in sorted(FOLDER.rglob("*.py")):
            with self.subTest(path=path.name):
                for node in ast.walk(ast.parse(path.read_text())):
                    self.assertNotIsInstance(node, ast.Div)
                    if isinstance(node, ast.Constant):
                        self.assertNotIsInstance(node.value, (float, complex))
                    if isinstance(node, ast.Name):
                        self.assertNotEqual(node.id, "float")


if __name__ == "__main__":
    unittest.main()
