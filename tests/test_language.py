"""The files of the package keep to the language: those of its rules that can be seen by a simple look."""

import ast
import builtins
import pathlib
import unittest

FOLDER = pathlib.Path(__file__).resolve().parent.parent / "fanweave"
BUILTINS = set("""len range enumerate zip min max sum abs sorted reversed int str bool list tuple dict set frozenset
    isinstance ord repr any all divmod pow iter next map super type property staticmethod classmethod
    Exception ValueError TypeError KeyError IndexError LookupError ZeroDivisionError ArithmeticError OverflowError
    RuntimeError NotImplementedError AttributeError StopIteration NotImplemented""".split())
BARRED = set("""register mro elements open input law version_info with_traceback add_note attrgetter breakpoint
    builtins compile copyright credits delattr dir eval exec exit gc globals help id importlib license locals
    methodcaller os quit vars sys chr bytes float object format hash print""".split())
SPECIAL = set("""__init__ __eq__ __repr__ __str__ __len__ __enter__ __exit__ __call__ __iter__""".split())
LIBRARY = {"heapq", "math", "itertools", "collections"}


def files():
    return sorted(FOLDER.rglob("*.py"))


def trees():
    return [(path, ast.parse(path.read_text(encoding="utf-8"))) for path in files()]


def nodes(kind):
    return [(path.name, node) for path, tree in trees() for node in ast.walk(tree) if isinstance(node, kind)]


def bound_names(node):
    if isinstance(node, (ast.FunctionDef, ast.ClassDef)):
        return [node.name]
    if isinstance(node, ast.arg):
        return [node.arg]
    if isinstance(node, ast.Name) and isinstance(node.ctx, ast.Store):
        return [node.id]
    return []


def defined(tree):
    found = set()
    for node in tree.body:
        if isinstance(node, ast.Assign):
            found.update(target.id for target in node.targets)
        else:
            found.update(bound_names(node))
    return found


class TestLanguage(unittest.TestCase):
    def test_folder_contains_python_files_alone(self):
        self.assertIn(FOLDER / "__init__.py", files())
        for path in FOLDER.rglob("*"):
            if path.is_file() and path.parent.name != "__pycache__":
                self.assertEqual(path.suffix, ".py")

    def test_sizes_and_characters(self):
        for path in files():
            text = path.read_text(encoding="utf-8")
            self.assertLessEqual(set(text), set(map(chr, range(32, 127))) | {"\n"}, path.name)
            self.assertLessEqual(len(text.splitlines()), 399, path.name)
            self.assertLessEqual(max([0] + [len(line) for line in text.splitlines()]), 120, path.name)
        for place, node in nodes(ast.FunctionDef):
            self.assertLessEqual(node.end_lineno - node.lineno + 1, 40, (place, node.name))

    def test_imports(self):
        known = {"fanweave." + path.stem: defined(tree) for path, tree in trees()}
        uses = {word: set() for word in known}
        self.assertEqual([place for place, _ in nodes(ast.Import)], [])
        for place, node in nodes(ast.ImportFrom):
            self.assertEqual(node.level, 0)
            if node.module not in LIBRARY:
                self.assertLessEqual({alias.name for alias in node.names}, known[node.module], place)
                uses["fanweave." + place.removesuffix(".py")].add(node.module)
        while uses:
            last = [word for word in uses if not uses[word] & set(uses)]
            self.assertNotEqual(last, [], "files import from each other")
            for word in last:
                del uses[word]

    def test_module_level(self):
        allowed = (ast.ImportFrom, ast.FunctionDef, ast.ClassDef, ast.Assign)
        for path, tree in trees():
            for number, node in enumerate(tree.body):
                docstring = number == 0 and isinstance(node, ast.Expr)
                self.assertTrue(docstring or isinstance(node, allowed), (path.name, node.lineno))

    def test_names(self):
        for place, node in nodes(ast.AST):
            for word in bound_names(node):
                self.assertNotIn(word, BARRED, place)
                self.assertTrue(not word.startswith("__") or word in SPECIAL, (place, word))
        for path, tree in trees():
            taken = {alias.asname or alias.name for node in tree.body if isinstance(node, ast.ImportFrom)
                     for alias in node.names}
            taken |= {node.name for node in tree.body if isinstance(node, ast.ClassDef)} | set(vars(builtins))
            methods = {id(node) for each in ast.walk(tree) if isinstance(each, ast.ClassDef) for node in each.body}
            for node in ast.walk(tree):
                if not isinstance(node, ast.ClassDef) and id(node) not in methods:
                    self.assertFalse(taken & set(bound_names(node)), (path.name, node))

    def test_builtins(self):
        for place, node in nodes(ast.Name):
            if node.id in vars(builtins):
                self.assertIn(node.id, BUILTINS, place)

    def test_statements_and_values(self):
        for place, node in nodes((ast.AsyncFunctionDef, ast.Await, ast.Global, ast.Div)):
            self.fail((place, ast.dump(node)))
        for place, node in nodes(ast.Constant):
            self.assertNotIsInstance(node.value, (float, complex), place)
        for place, node in nodes(ast.Compare):
            for sign, right in zip(node.ops, node.comparators):
                if isinstance(sign, (ast.Is, ast.IsNot)):
                    self.assertTrue(isinstance(right, ast.Constant) and right.value in (None, True, False), place)

    def test_double_underscore_methods(self):
        for place, node in nodes(ast.FunctionDef):
            returns = [each.value for each in ast.walk(node) if isinstance(each, ast.Return)]
            if node.name == "__init__":
                self.assertEqual(returns, [], place)
            if node.name == "__len__":
                self.assertTrue(all(is_call(value, "len") for value in returns), place)

    def test_attributes_are_assigned_through_local_names(self):
        for place, node in nodes(ast.Attribute):
            if not isinstance(node.ctx, ast.Load):
                self.assertIsInstance(node.value, ast.Name, place)


def is_call(node, word):
    return isinstance(node, ast.Call) and isinstance(node.func, ast.Name) and node.func.id == word


if __name__ == "__main__":
    unittest.main()
