"""What the language of the package asks of each file, as far as it can be counted."""

import ast
import os
import unittest

HERE = os.path.dirname(os.path.dirname(os.path.abspath(__file__)))
LIBRARY = {"math": {"gcd", "factorial"}}


def files():
    folder = os.path.join(HERE, "stayopen")
    for name in sorted(os.listdir(folder)):
        if name != "__pycache__":
            with open(os.path.join(folder, name), encoding="ascii") as file:
                yield name, file.read()


class Language(unittest.TestCase):
    def test_sizes_and_signs(self):
        told = list(files())
        self.assertLessEqual(len(told), 100)
        for name, text in told:
            self.assertTrue(name.endswith(".py") and name == name.lower(), name)
            lines = text.split("\n")
            self.assertLessEqual(len(lines), 399, name)
            self.assertLessEqual(max(map(len, lines)), 120, name)
            self.assertTrue(all(sign == "\n" or " " <= sign <= "~" for sign in text), name)
            for node in ast.walk(ast.parse(text)):
                if isinstance(node, ast.FunctionDef):
                    self.assertLessEqual(node.end_lineno - node.lineno + 1, 40, f"{name} {node.name}")

    def test_imports(self):
        for name, text in files():
            for node in ast.walk(ast.parse(text)):
                self.assertNotIsInstance(node, ast.Import, name)
                if isinstance(node, ast.ImportFrom) and node.module in LIBRARY:
                    self.assertLessEqual({part.name for part in node.names}, LIBRARY[node.module], name)
                elif isinstance(node, ast.ImportFrom):
                    self.assertTrue(node.level == 0 and node.module.startswith("stayopen."), name)

    def test_what_is_left_out(self):
        left_out = (ast.AsyncFunctionDef, ast.Await, ast.Div)
        for name, text in files():
            for node in ast.walk(ast.parse(text)):
                self.assertNotIsInstance(node, left_out, name)
                if isinstance(node, ast.Constant):
                    self.assertNotIsInstance(node.value, float, name)


if __name__ == "__main__":
    unittest.main()
