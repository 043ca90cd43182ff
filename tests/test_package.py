import ast
import pathlib
import unittest

PACKAGE = pathlib.Path(__file__).resolve().parent.parent / "cogtrain"


def package_files():
    return [path for path in sorted(PACKAGE.rglob("*")) if path.is_file() and path.parent.name != "__pycache__"]


def drawn_modules(path):
    drawn = []
    for node in ast.walk(ast.parse(path.read_text(encoding="ascii"))):
        if isinstance(node, ast.Import):
            drawn.extend(alias.name for alias in node.names)
        if isinstance(node, ast.ImportFrom):
            drawn.append("." * node.level + (node.module or ""))
    return drawn


class Package(unittest.TestCase):
    def test_holds_python_files_alone(self):
        names = [path.name for path in package_files()]
        self.assertIn("__init__.py", names)
        for name in names:
            with self.subTest(name=name):
                self.assertTrue(name.endswith(".py"))
                self.assertFalse(name.startswith("test"))

    def test_draws_from_itself_alone(self):
        # Clock, chance and files all come in through an import or `open`, so without these no answer can go by them.
        for path in package_files():
            for module in drawn_modules(path):
                with self.subTest(file=path.name, module=module):
                    self.assertTrue(module.startswith("cogtrain."))
            words = [node.id for node in ast.walk(ast.parse(path.read_text())) if isinstance(node, ast.Name)]
            self.assertNotIn("open", words)

    def test_keeps_to_its_sizes_and_signs(self):
        for path in package_files():
            text = path.read_text(encoding="ascii")
            with self.subTest(file=path.name):
                self.assertTrue(all(sign == "\n" or " " <= sign <= "~" for sign in text))
                self.assertLessEqual(len(text.splitlines()), 400)
                self.assertTrue(all(len(line) <= 120 for line in text.splitlines()))
            for node in ast.walk(ast.parse(text)):
                if isinstance(node, ast.FunctionDef):
                    with self.subTest(file=path.name, function=node.name):
                        self.assertLessEqual(node.end_lineno - node.lineno + 1, 40)


if __name__ == "__main__":
    unittest.main()
