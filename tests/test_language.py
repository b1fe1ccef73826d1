"""What of ../shared/LANGUAGE.md can be seen in a few lines: files, imports, sizes, characters."""

import ast
import pathlib
import unittest

PACKAGE = pathlib.Path(__file__).resolve().parent.parent / "wardhouse"
FILES = sorted(PACKAGE.glob("*.py"))
LIBRARY = ("heapq", "math", "itertools", "collections")


def trees():
    return [(path.name, ast.parse(path.read_text(encoding="utf-8"))) for path in FILES]


class Language(unittest.TestCase):
    def test_the_folder_holds_only_files_of_the_package(self):
        others = [path.name for path in PACKAGE.iterdir() if path not in FILES and path.name != "__pycache__"]
        self.assertEqual(others, [])
        self.assertIn("__init__.py", [path.name for path in FILES])

    def test_sizes_and_characters(self):
        for path in FILES:
            lines = path.read_text(encoding="utf-8").split("\n")
            self.assertLessEqual(len(lines), 400, path.name)
            for at, line in enumerate(lines, 1):
                self.assertLessEqual(len(line), 120, (path.name, at))
                self.assertTrue(all(" " <= sign <= "~" for sign in line), (path.name, at))

    def test_functions_have_at_most_forty_lines(self):
        for file, tree in trees():
            for node in ast.walk(tree):
                if isinstance(node, ast.FunctionDef):
                    self.assertLessEqual(node.end_lineno - node.lineno + 1, 40, (file, node.name))

    def test_imports_are_by_full_names_from_the_package(self):
        for file, tree in trees():
            for node in ast.walk(tree):
                self.assertNotIsInstance(node, ast.Import, file)
                if isinstance(node, ast.ImportFrom):
                    self.assertEqual(node.level, 0, file)
                    self.assertTrue(node.module.startswith("wardhouse.") or node.module in LIBRARY, (file, node.module))


if __name__ == "__main__":
    unittest.main()
