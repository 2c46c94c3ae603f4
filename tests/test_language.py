"""Some of the rules of LANGUAGE.md that can be seen in the package's files."""

import ast
import builtins
import pathlib
import re
import unittest

PACKAGE = pathlib.Path(__file__).resolve().parent.parent / "leadbeats"
BUILTINS = set("""len range enumerate zip min max sum abs sorted reversed int str bool bytes list tuple dict set
    isinstance ord repr any all divmod ArithmeticError ValueError KeyError IndexError ZeroDivisionError""".split())
METHODS = set("""append clear copy count endswith extend find get index insert items join keys pop remove replace
    reverse setdefault split startswith strip update values bit_length add discard""".split())
STORED = {"range", "zip", "enumerate", "reversed", "set", "map", "filter"}
BARRED = re.compile(r"\b(type|typing|enum|Enum|Flag|Generic|Protocol|ABC|namedtuple|register|elements|open|input)\b"
                    "|dataclass|overload|contextmanager")


class Language(unittest.TestCase):
    def setUp(self):
        self.files = sorted(PACKAGE.glob("*.py"))
        self.texts = {path.name: path.read_text() for path in self.files}
        self.nodes = [(name, node) for name, text in self.texts.items() for node in ast.walk(ast.parse(text))]

    def test_files(self):
        self.assertIn("__init__.py", self.texts)
        others = [path.name for path in PACKAGE.iterdir() if path not in self.files and path.name != "__pycache__"]
        self.assertEqual(others, [])

    def test_size_and_characters(self):
        for name, text in self.texts.items():
            self.assertLessEqual(len(text.splitlines()), 400, name)
            for line in text.splitlines():
                self.assertLessEqual(len(line), 120, name)
                self.assertRegex(line, r"\A[ -~]*\Z", name)
                self.assertIsNone(BARRED.search(line), line)
        for name, node in self.nodes:
            if isinstance(node, ast.FunctionDef):
                self.assertLessEqual(node.end_lineno - node.lineno + 1, 40, (name, node.name))

    def test_imports_are_from_the_package(self):
        for name, node in self.nodes:
            self.assertNotIsInstance(node, ast.Import, name)
            if isinstance(node, ast.ImportFrom):
                self.assertTrue(node.level == 0 and node.module.startswith("leadbeats."), name)

    def test_names(self):
        for name, node in self.nodes:
            if isinstance(node, ast.Name) and hasattr(builtins, node.id):
                self.assertIn(node.id, BUILTINS, name)
            if isinstance(node, (ast.Name, ast.arg)):
                self.assertFalse((node.id if isinstance(node, ast.Name) else node.arg).startswith("_"), name)

    def test_no_numbers_with_a_point(self):
        for name, node in self.nodes:
            self.assertNotIsInstance(node, (ast.Div, ast.Global), name)
            if isinstance(node, ast.Constant):
                self.assertNotIsInstance(node.value, (float, complex), name)
                self.assertNotIn("\x25", node.value if isinstance(node.value, str) else "", name)
            if isinstance(node, ast.BinOp) and isinstance(node.op, ast.Pow):
                self.assertIsInstance(node.right, ast.Constant, name)

    def test_no_name_has_two_meanings(self):
        for name, text in self.texts.items():
            tree = ast.parse(text)
            taken = {node.name for node in tree.body if isinstance(node, ast.ClassDef)} | set(dir(builtins))
            taken |= {told.name for node in tree.body if isinstance(node, ast.ImportFrom) for told in node.names}
            nodes = list(ast.walk(tree))
            names = [node.id for node in nodes if isinstance(node, ast.Name) and isinstance(node.ctx, ast.Store)]
            names += [node.arg for node in nodes if isinstance(node, ast.arg)]
            self.assertEqual([told for told in names if told in taken], [], name)

    def test_methods_and_attributes(self):
        methods = {told.name for name, node in self.nodes if isinstance(node, ast.ClassDef)
                   for told in node.body if isinstance(told, ast.FunctionDef)}
        stored = {node.attr for name, node in self.nodes
                  if isinstance(node, ast.Attribute) and isinstance(node.ctx, ast.Store)}
        self.assertEqual(methods & stored, set())
        for name, node in self.nodes:
            if isinstance(node, ast.Call) and isinstance(node.func, ast.Attribute):
                self.assertIn(node.func.attr, methods | METHODS, name)
            elif isinstance(node, ast.Attribute):
                self.assertIn(node.attr, methods | METHODS | stored, name)

    def test_what_is_iterated_at_once_is_not_stored(self):
        for name, node in self.nodes:
            if isinstance(node, (ast.Assign, ast.Return)) and isinstance(node.value, ast.Call):
                called = node.value.func
                self.assertNotIn(called.id if isinstance(called, ast.Name) else called.attr,
                                 STORED | {"items", "keys", "values"}, (name, node.lineno))
            self.assertNotIsInstance(node, (ast.GeneratorExp, ast.Yield, ast.Set, ast.SetComp, ast.Lambda), name)

    def test_imports_go_one_way(self):
        seen = {name: {node.module.split(".")[1] + ".py" for node in ast.parse(text).body
                       if isinstance(node, ast.ImportFrom)} for name, text in self.texts.items()}
        while seen:
            ready = [name for name in seen if not seen[name] & set(seen)]
            self.assertNotEqual(ready, [], "two files import from each other")
            for name in ready:
                del seen[name]


if __name__ == "__main__":
    unittest.main()
