"""The rules of the language that can be read off the files of the package, L1 to L28 in part."""

import ast
import builtins
import pathlib
import unittest

PACKAGE = pathlib.Path(__file__).resolve().parent.parent / "backthen"
BUILTINS = set((
    "len range enumerate zip min max sum abs sorted reversed int str bool bytes list tuple dict set frozenset"
    " isinstance ord repr any all divmod pow iter next map type super getattr hasattr setattr print Exception"
    " ValueError TypeError KeyError IndexError LookupError ZeroDivisionError ArithmeticError OverflowError"
    " RuntimeError NotImplementedError AttributeError StopIteration NotImplemented"
    " property staticmethod classmethod __name__"
).split())
METHODS = set((
    "append clear copy count endswith extend find get index insert isalnum isalpha isdigit islower isspace isupper"
    " items join keys ljust lower lstrip partition pop remove replace reverse rfind rjust rpartition rsplit rstrip"
    " setdefault split splitlines startswith strip update upper values zfill bit_length add discard sort"
    " title capitalize swapcase casefold center expandtabs removeprefix removesuffix rindex isascii isdecimal"
    " isnumeric istitle isidentifier isprintable translate maketrans encode decode hex format"
    " appendleft popleft extendleft rotate from_iterable __init__"
).split())
# The methods that L5 names; all others of this form are barred.
SPECIAL_METHODS = set((
    "init eq repr str len enter exit call iter lt le gt ge ne add sub mul floordiv mod pow and or xor lshift rshift"
    " radd rsub rmul rfloordiv rmod rand ror rxor rlshift rrshift iadd isub imul ifloordiv imod ipow iand ior ixor"
    " ilshift irshift neg pos invert abs bool contains getitem setitem"
).split())
BARRED = (ast.AsyncFunctionDef, ast.AsyncFor, ast.AsyncWith, ast.Await, ast.Div, ast.Import)
IMPORTED = ("backthen", "heapq", "math", "itertools", "collections", "__future__")
MODULE_STATEMENTS = (ast.ImportFrom, ast.FunctionDef, ast.ClassDef, ast.Assign, ast.AnnAssign)


def files():
    return sorted(path for path in PACKAGE.rglob("*") if path.is_file() and path.suffix != ".pyc")


def trees():
    return [(path.name, ast.parse(path.read_text())) for path in files()]


def nodes(kind):
    return [(name, node) for name, tree in trees() for node in ast.walk(tree) if isinstance(node, kind)]


class LanguageTests(unittest.TestCase):
    def test_files_and_characters(self):
        self.assertIn("__init__.py", [path.name for path in files()])
        for path in files():
            self.assertRegex(path.name, r"^[a-z0-9_]+\.py$")
            self.assertLessEqual(set(path.read_bytes()), {10, *range(32, 127)}, path.name)

    def test_sizes(self):
        for path in files():
            lines = path.read_text().splitlines()
            self.assertLessEqual(len(lines), 399, path.name)
            self.assertLessEqual(max(map(len, lines), default=0), 120, path.name)
        for name, node in nodes(ast.FunctionDef):
            self.assertLessEqual(node.end_lineno - node.lineno + 1, 40, (name, node.name))

    def test_imports(self):
        for name, node in nodes(ast.ImportFrom):
            self.assertEqual(node.level, 0, name)
            self.assertIn(node.module.split(".")[0], IMPORTED, name)
            self.assertFalse(any(alias.name == "*" for alias in node.names), name)

    def test_module_level(self):
        for name, tree in trees():
            for node in tree.body[ast.get_docstring(tree) is not None:]:
                self.assertIsInstance(node, MODULE_STATEMENTS, name)

    def test_barred_syntax(self):
        self.assertEqual([(name, node.lineno) for name, node in nodes(BARRED)], [])
        for name, node in nodes(ast.Constant):
            self.assertNotIsInstance(node.value, (float, complex), (name, node.lineno))
        for name, node in nodes(ast.ClassDef):
            self.assertEqual(node.decorator_list, [], (name, node.name))

    def test_builtins_and_names(self):
        known = set(dir(builtins))
        for name, node in nodes(ast.Name):
            if node.id in known:
                self.assertIn(node.id, BUILTINS, (name, node.lineno))
                self.assertIsInstance(node.ctx, ast.Load, (name, node.lineno))
        for name, node in nodes(ast.arg):
            self.assertNotIn(node.arg, known, (name, node.lineno))
        for name, node in nodes(ast.FunctionDef):
            if node.name.startswith("__"):
                self.assertIn(node.name.strip("_"), SPECIAL_METHODS, (name, node.name))

    def test_methods(self):
        own = {node.name for _, node in nodes(ast.FunctionDef)}
        own |= {node.attr for _, node in nodes(ast.Attribute) if isinstance(node.ctx, ast.Store)}
        for name, node in nodes(ast.Call):
            if isinstance(node.func, ast.Attribute):
                self.assertIn(node.func.attr, METHODS | own, (name, node.lineno))


if __name__ == "__main__":
    unittest.main()
