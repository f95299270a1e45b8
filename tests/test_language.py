"""What LANGUAGE.md says of files and their sizes (L1, L2, L10, L14), as far as it can be counted."""

import ast
import unittest
from pathlib import Path

FOLDER = Path(__file__).resolve().parent.parent / "saidcounts"
FILES = sorted(path for path in FOLDER.iterdir() if path.name != "__pycache__")
ALLOWED = ("saidcounts", "math", "itertools", "heapq", "collections")


def size(node):
    return node.end_lineno - node.lineno + 1


class Language(unittest.TestCase):
    def test_the_folder_holds_python_files_alone(self):
        self.assertTrue(FILES)
        for path in FILES:
            self.assertTrue(path.is_file() and path.suffix == ".py", path)

    def test_lines(self):
        for path in FILES:
            text = path.read_text(encoding="utf-8")
            self.assertTrue(all(sign == "\n" or " " <= sign <= "~" for sign in text), path)
            self.assertLessEqual(len(text.splitlines()), 399, path)
            self.assertLessEqual(max(map(len, text.splitlines())), 120, path)

    def test_functions(self):
        for path in FILES:
            for node in ast.walk(ast.parse(path.read_text(encoding="utf-8"))):
                if isinstance(node, ast.FunctionDef):
                    self.assertLessEqual(size(node), 40, (path, node.name))

    def test_imports(self):
        for path in FILES:
            for node in ast.walk(ast.parse(path.read_text(encoding="utf-8"))):
                self.assertNotIsInstance(node, ast.Import, path)
                if isinstance(node, ast.ImportFrom):
                    self.assertIn(node.module.split(".")[0], ALLOWED, path)


if __name__ == "__main__":
    unittest.main()
