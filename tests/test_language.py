"""Rules of the language that can be told from the look of the files alone; they are not all of them."""

import ast
import builtins
import pathlib
import re
import unittest

PACKAGE = pathlib.Path(__file__).resolve().parent.parent / "longlife"
LIBRARY = {"heapq", "math", "itertools", "collections"}
BUILTINS = set("""len range enumerate zip min max sum abs sorted reversed int str bool bytes list tuple dict set
    frozenset isinstance ord repr any all divmod pow map iter next type super property staticmethod classmethod
    getattr hasattr setattr object Exception ValueError TypeError KeyError IndexError LookupError ZeroDivisionError
    ArithmeticError OverflowError RuntimeError NotImplementedError AttributeError StopIteration NotImplemented""".split())
METHODS = set("""append clear copy count endswith extend find get index insert isalnum isalpha isdigit islower isspace
    isupper items join keys ljust lower lstrip partition pop remove replace reverse rfind rjust rpartition rsplit rstrip
    setdefault split splitlines startswith strip update upper values zfill bit_length title capitalize swapcase casefold
    center expandtabs removeprefix removesuffix rindex isascii isdecimal isnumeric istitle isidentifier isprintable
    add discard appendleft popleft extendleft rotate sort format __init__""".split())
STATEMENTS = (ast.AsyncFunctionDef, ast.AsyncFor, ast.AsyncWith, ast.Await)
BARRED = set("register mro elements open input law version_info with_traceback add_note".split())


def files():
    return sorted(PACKAGE.glob("*.py"))


def nodes(path):
    return list(ast.walk(ast.parse(path.read_text(encoding="ascii"))))


class LanguageTest(unittest.TestCase):
    def test_the_folder_holds_plain_files_alone(self):
        names = [path.name for path in PACKAGE.iterdir() if path.name != "__pycache__"]
        self.assertIn("__init__.py", names)
        for name in names:
            self.assertRegex(name, r"\A(__init__|__main__|[a-z][a-z0-9_]*)\.py\Z")
            self.assertFalse(name.startswith("test"))

    def test_signs_and_sizes(self):
        for path in files():
            text = path.read_bytes()
            self.assertTrue(all(sign == 10 or 32 <= sign <= 126 for sign in text), path)
            lines = text.decode("ascii").split("\n")
            self.assertLessEqual(len(lines) - 1, 399, path)
            self.assertLessEqual(max(len(line) for line in lines), 120, path)
            for node in nodes(path):
                if isinstance(node, ast.FunctionDef):
                    self.assertLessEqual(node.end_lineno - node.lineno + 1, 40, (path, node.name))

    def test_imports(self):
        for path in files():
            for node in nodes(path):
                self.assertNotIsInstance(node, ast.Import, path)
                if isinstance(node, ast.ImportFrom):
                    self.assertEqual(node.level, 0)
                    self.assertIn(node.module.split(".")[0], LIBRARY | {"longlife"}, path)
                    for alias in node.names:
                        self.assertNotEqual(alias.name, "*")

    def test_values_and_statements(self):
        for path in files():
            for node in nodes(path):
                self.assertNotIsInstance(node, STATEMENTS, path)
                self.assertNotIsInstance(node, ast.Div, path)
                if isinstance(node, ast.Constant):
                    self.assertNotIsInstance(node.value, (float, complex), path)
                if isinstance(node, ast.ExceptHandler):
                    self.assertIsNotNone(node.type, path)
                # A class with `==` bars generator expressions from nearly every place; a list does as well.
                self.assertNotIsInstance(node, ast.GeneratorExp, path)

    def test_builtins_and_methods(self):
        everywhere = METHODS | own_methods()
        for path in files():
            found = nodes(path)
            own = {node.name for node in found if isinstance(node, (ast.FunctionDef, ast.ClassDef))}
            for node in found:
                # `_` becomes a builtin where an example has been run as at a prompt.
                if isinstance(node, ast.Name) and node.id != "_" and hasattr(builtins, node.id):
                    self.assertIn(node.id, BUILTINS, path)
                    self.assertIsInstance(node.ctx, ast.Load, path)
                if isinstance(node, ast.Call) and isinstance(node.func, ast.Attribute):
                    self.assertIn(node.func.attr, everywhere | own, path)

    def test_names(self):
        for path in files():
            for name in re.findall(r"[A-Za-z_]\w*", path.read_text(encoding="ascii")):
                self.assertNotIn(name, ("_wall", "_WallAttr"))
            for node in nodes(path):
                name = getattr(node, "id", None) or getattr(node, "attr", None) or getattr(node, "arg", None)
                self.assertNotIn(name, BARRED, path)


def own_methods():
    return {part.name for path in files() for node in nodes(path) if isinstance(node, ast.ClassDef)
            for part in node.body if isinstance(part, ast.FunctionDef)}


if __name__ == "__main__":
    unittest.main()
