"""The rules of the language that a look at the package's text can judge."""

import ast
import os
import unittest

PACKAGE = os.path.join(os.path.dirname(os.path.dirname(os.path.abspath(__file__))), "missclock")

BUILTINS = set("""len range enumerate zip min max sum abs sorted reversed int str bool bytes list tuple
dict set isinstance ord repr any all divmod ValueError super""".split())

METHODS = set("""append clear copy count endswith extend find get index insert isalnum isalpha isdigit
islower isspace isupper items join keys ljust lower lstrip partition pop remove replace reverse rfind
rjust rpartition rsplit rstrip setdefault split splitlines startswith strip update upper values zfill
bit_length isascii __init__""".split())

BARRED = (ast.Global, ast.Nonlocal, ast.AsyncFunctionDef, ast.AsyncFor, ast.AsyncWith, ast.Await, ast.Lambda,
          ast.GeneratorExp, ast.Yield, ast.YieldFrom, ast.Div, ast.With, ast.Import, ast.Match, ast.NamedExpr,
          ast.AnnAssign, ast.Set, ast.SetComp)

# What may stand at module level: plain values alone, none of them called for.
PLAIN = (ast.Constant, ast.Dict, ast.List, ast.Tuple, ast.BinOp, ast.Pow, ast.Mult, ast.Load)

# Words that stand nowhere but in comments and docstrings.
WORDS = set("""type typing enum Enum Flag Generic Protocol ABC namedtuple NamedTuple dataclass overload register
elements open input law mro eval exec globals locals vars getattr setattr hasattr""".split())


def own_methods():
    """The methods of the package's classes, by their names."""
    told = set()
    for _, text in files():
        for node in ast.walk(ast.parse(text)):
            if isinstance(node, ast.ClassDef):
                told |= {one.name for one in node.body if isinstance(one, ast.FunctionDef)}
    return told


def files():
    for name in sorted(os.listdir(PACKAGE)):
        if name != "__pycache__":
            with open(os.path.join(PACKAGE, name), encoding="utf-8") as file:
                yield name, file.read()


class TestLanguage(unittest.TestCase):
    def test_files(self):
        for name, text in files():
            self.assertRegex(name, r"\A[a-z_]+\.py\Z")
            self.assertTrue(all(" " <= sign <= "~" or sign == "\n" for sign in text), name)
            self.assertLessEqual(len(text.splitlines()), 399, name)
            self.assertLessEqual(max(map(len, text.splitlines())), 120, name)

    def test_statements(self):
        for name, text in files():
            for node in ast.walk(ast.parse(text)):
                self.assertNotIsInstance(node, BARRED, (name, getattr(node, "lineno", 0)))
                if isinstance(node, ast.FunctionDef):
                    self.assertLessEqual(node.end_lineno - node.lineno + 1, 40, (name, node.name))
                    self.assertEqual(node.decorator_list, [])
                if isinstance(node, ast.Constant):
                    self.assertIsInstance(node.value, (int, str, bytes, bool, type(None)))
                if isinstance(node, ast.Compare) and isinstance(node.ops[0], (ast.Is, ast.IsNot)):
                    self.assertIsInstance(node.comparators[0], ast.Constant)

    def test_names_and_calls(self):
        methods = METHODS | own_methods()
        for name, text in files():
            tree = ast.parse(text)
            bound = set(BUILTINS)
            for node in ast.walk(tree):
                if isinstance(node, ast.ImportFrom):
                    self.assertRegex(node.module, r"\Amissclock\.[a-z_]+\Z")
                    bound |= {one.name for one in node.names}
                if isinstance(node, (ast.FunctionDef, ast.ClassDef)):
                    bound.add(node.name)
            for node in ast.walk(tree):
                if isinstance(node, ast.Call) and isinstance(node.func, ast.Name):
                    self.assertIn(node.func.id, bound, (name, node.lineno))
                if isinstance(node, ast.Call) and isinstance(node.func, ast.Attribute):
                    self.assertIn(node.func.attr, methods, (name, node.lineno))

    def test_module_level(self):
        for name, text in files():
            for node in ast.parse(text).body:
                if isinstance(node, ast.Assign):
                    self.assertEqual(len(node.targets), 1)
                    for part in ast.walk(node.value):
                        self.assertIsInstance(part, PLAIN, (name, node.lineno))
                elif isinstance(node, ast.Expr):
                    self.assertIsInstance(node.value, ast.Constant)
                else:
                    self.assertIsInstance(node, (ast.ImportFrom, ast.FunctionDef, ast.ClassDef), (name, node.lineno))

    def test_handlers_name_own_errors_and_raise_anew(self):
        for name, text in files():
            for node in ast.walk(ast.parse(text)):
                if isinstance(node, ast.Try):
                    self.assertEqual(node.finalbody, [])
                    for handler in node.handlers:
                        self.assertEqual((handler.type.id, handler.name), ("MissError", None), name)
                if isinstance(node, ast.Raise):
                    self.assertIsInstance(node.exc, ast.Call, (name, node.lineno))
                    self.assertIsNone(node.cause)

    def test_classes(self):
        methods, attributes = own_methods(), set()
        for name, text in files():
            for node in ast.walk(ast.parse(text)):
                if isinstance(node, ast.Attribute) and isinstance(node.ctx, ast.Store):
                    attributes.add(node.attr)
                    self.assertIsInstance(node.value, ast.Name, (name, node.lineno))
                if isinstance(node, ast.ClassDef):
                    self.assertEqual(node.decorator_list, [])
                    for one in node.body:
                        self.assertTrue(isinstance(one, ast.FunctionDef) or isinstance(one.value, ast.Constant))
        # No name is both, in whatever classes; and no attribute has the name of a method of Python's own.
        self.assertEqual(methods & attributes, set())
        self.assertEqual(attributes & METHODS, set())
        self.assertEqual({one for one in methods if one.startswith("__")}, {"__init__", "__eq__", "__len__"})

    def test_words(self):
        for name, text in files():
            for node in ast.walk(ast.parse(text)):
                said = {getattr(node, field, None) for field in ("id", "attr", "arg", "name")}
                self.assertEqual({word for word in said if isinstance(word, str)} & WORDS, set(), name)
            for sign in ("%", "chr(", "._\""):
                self.assertNotIn(sign, text.replace(" % ", ""), name)

    def test_no_name_is_bound_to_another_meaning(self):
        for name, text in files():
            tree = ast.parse(text)
            top = [node.name for node in tree.body if isinstance(node, (ast.FunctionDef, ast.ClassDef))]
            for node in tree.body:
                if isinstance(node, ast.ImportFrom):
                    top += [one.name for one in node.names]
                if isinstance(node, ast.Assign):
                    top += [one.id for one in node.targets]
            self.assertEqual(len(top), len(set(top)), name)
            imported = {one.name for node in tree.body if isinstance(node, ast.ImportFrom)
                        for one in node.names}
            for node in ast.walk(tree):
                if isinstance(node, ast.Name) and isinstance(node.ctx, ast.Store):
                    self.assertNotIn(node.id, imported | BUILTINS, (name, node.lineno))
                if isinstance(node, ast.arg):
                    self.assertNotIn(node.arg, imported | BUILTINS, (name, node.lineno))

    def test_no_two_files_import_one_another(self):
        table = {}
        for name, text in files():
            tree = ast.parse(text)
            table[name[:-3]] = [node.module.split(".")[1] for node in ast.walk(tree)
                                if isinstance(node, ast.ImportFrom)]
        done = []
        while len(done) < len(table):
            ready = [name for name in table if name not in done
                     and all(other in done for other in table[name])]
            self.assertTrue(ready, "files that import one another")
            done += ready


if __name__ == "__main__":
    unittest.main()
