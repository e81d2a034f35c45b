"""Those rules of the language for the package that can be seen by a look at its files."""

import ast
import pathlib
import re
import unittest

PACKAGE = pathlib.Path(__file__).resolve().parent.parent / 'toldboxes'
FILES = sorted(PACKAGE.rglob('*.py'))
BUILTINS = set(
    'len range enumerate zip min max sum abs sorted reversed int str bool list tuple dict set isinstance ord repr any '
    'all divmod ValueError TypeError KeyError IndexError LookupError NotImplemented iter next map'.split(' '))
BARRED = re.compile(
    r'\b(type|typing|enum|Enum|Generic|Protocol|ABC|namedtuple|NamedTuple|register|mro|elements|law|global|async)\b')
METHODS = set(
    'append clear copy count endswith extend find get index insert isalnum isalpha isdigit items join keys pop remove '
    'replace reverse setdefault split startswith strip update values'.split(' '))
KINDS = (
    ast.Global, ast.AsyncFunctionDef, ast.AsyncFor, ast.AsyncWith, ast.Await, ast.Yield, ast.YieldFrom, ast.GeneratorExp,
    ast.Try, ast.With, ast.Match, ast.NamedExpr, ast.Div, ast.Pow, ast.Delete,
)


# Kinds of statements that stand in few files only, by the files.
LET = {'devices': (ast.Try,), 'records': (ast.Delete,), 'benches': (ast.With,), 'journals': (ast.Try,)}
# Methods that the interface calls so, by the files.
CALLED_SO = {'benches': {'next', 'copy'}}


def methods_of(tree):
    return [part for node in ast.walk(tree) if isinstance(node, ast.ClassDef) for part in node.body
            if isinstance(part, ast.FunctionDef)]


def names_bound(tree):
    """All names that a file gives a meaning, but for methods that the interface calls so."""
    found = set()
    methods = [method for method in methods_of(tree) if method.name == 'next']
    for node in ast.walk(tree):
        if node in methods:
            continue
        if isinstance(node, (ast.FunctionDef, ast.ClassDef, ast.ExceptHandler)):
            found.add(node.name)
        elif isinstance(node, ast.arg):
            found.add(node.arg)
        elif isinstance(node, ast.Name) and isinstance(node.ctx, ast.Store):
            found.add(node.id)
        elif isinstance(node, (ast.Import, ast.ImportFrom)):
            found |= {name.asname or name.name for name in node.names}
    return found


class TestFiles(unittest.TestCase):
    def test_there_are_files(self):
        self.assertGreaterEqual(len(FILES), 19)
        self.assertEqual([path.name for path in PACKAGE.iterdir() if path.suffix != '.py' and path.name != '__pycache__'], [])

    def test_sizes_and_signs(self):
        for path in FILES:
            text = path.read_text(encoding='utf-8')
            lines = text.split('\n')
            self.assertLessEqual(len(lines), 399, path)
            self.assertLessEqual(max(map(len, lines)), 120, path)
            self.assertTrue(set(text) <= set(map(chr, range(32, 127))) | {'\n'}, path)
            for node in ast.walk(ast.parse(text)):
                if isinstance(node, ast.FunctionDef):
                    self.assertLessEqual(node.end_lineno - node.lineno + 1, 40, f'{path} {node.name}')

    def test_module_level(self):
        for path in FILES:
            body = ast.parse(path.read_text()).body
            self.assertIsInstance(body[0], ast.Expr, f'{path}: no docstring')
            for node in body[1:]:
                self.assertIsInstance(node, (ast.ImportFrom, ast.FunctionDef, ast.ClassDef, ast.Assign), path)

    def test_imports(self):
        behind = {}
        for path in FILES:
            tree = ast.parse(path.read_text())
            for node in ast.walk(tree):
                self.assertNotIsInstance(node, ast.Import)
                if isinstance(node, ast.ImportFrom):
                    self.assertEqual((node.level, node.module.split('.')[0]), (0, 'toldboxes'))
                    source = ast.parse((PACKAGE / f'{node.module.split(".")[1]}.py').read_text())
                    defined = {part.name for part in source.body if isinstance(part, (ast.FunctionDef, ast.ClassDef))}
                    defined |= {name.id for part in source.body if isinstance(part, ast.Assign) for name in part.targets}
                    self.assertTrue({name.name for name in node.names} <= defined, path)
                    self.assertTrue(all(name.asname is None for name in node.names))
                    behind.setdefault(path.stem, set()).add(node.module.split('.')[1])
        for name in behind:
            seen, waiting = set(), list(behind[name])
            while waiting:
                found = waiting.pop()
                if found not in seen:
                    seen.add(found)
                    waiting += behind.get(found, ())
            self.assertNotIn(name, seen)

    def test_all_that_is_imported_is_used(self):
        for path in FILES:
            tree = ast.parse(path.read_text())
            imported = {name.name for node in tree.body if isinstance(node, ast.ImportFrom) for name in node.names}
            used = {node.id for node in ast.walk(tree) if isinstance(node, ast.Name)}
            self.assertEqual(imported - used, set(), path)


class TestRules(unittest.TestCase):
    def test_kinds_of_statements(self):
        for path in FILES:
            for node in ast.walk(ast.parse(path.read_text())):
                if isinstance(node, LET.get(path.stem, ())):
                    continue
                self.assertNotIsInstance(node, KINDS, f'{path}:{getattr(node, "lineno", "")}')
                self.assertFalse(isinstance(node, ast.Constant) and isinstance(node.value, float))

    def test_names(self):
        for path in FILES:
            tree = ast.parse(path.read_text())
            bound = names_bound(tree) - {None}
            self.assertEqual(bound & BUILTINS, set(), path)
            for name in bound:
                self.assertTrue(not name.startswith('__') or name in (
                    '__init__', '__eq__', '__len__', '__contains__', '__enter__', '__exit__'), f'{path} {name}')
            code = ast.unparse(self.without_docstrings(tree))
            self.assertIsNone(BARRED.search(code), path)
            self.assertNotIn('%', code)

    def without_docstrings(self, tree):
        for node in ast.walk(tree):
            if isinstance(node, (ast.Module, ast.ClassDef, ast.FunctionDef)) and ast.get_docstring(node) is not None:
                node.body = node.body[1:] or [ast.Pass()]
        return tree

    def test_builtins_that_are_called(self):
        for path in FILES:
            tree = ast.parse(path.read_text())
            known = names_bound(tree) | BUILTINS
            for node in ast.walk(tree):
                if isinstance(node, ast.Name):
                    self.assertIn(node.id, known, path)

    def test_locals_have_no_names_of_imports_and_classes(self):
        for path in FILES:
            tree = ast.parse(path.read_text())
            fixed = {name.name for node in tree.body if isinstance(node, ast.ImportFrom) for name in node.names}
            fixed |= {node.name for node in tree.body if isinstance(node, ast.ClassDef)}
            bound = []
            for node in ast.walk(tree):
                if isinstance(node, ast.arg):
                    bound.append(node.arg)
                elif isinstance(node, ast.Name) and isinstance(node.ctx, ast.Store):
                    bound.append(node.id)
            self.assertEqual(fixed & set(bound), set(), path)

    def test_no_name_is_a_method_and_an_attribute(self):
        methods, attributes = set(), set()
        for path in FILES:
            tree = ast.parse(path.read_text())
            methods |= {method.name for method in methods_of(tree)} - CALLED_SO.get(path.stem, set())
            for node in ast.walk(tree):
                if isinstance(node, ast.Attribute) and isinstance(node.ctx, ast.Store):
                    attributes.add(node.attr)
        self.assertEqual(methods & attributes, set())
        self.assertEqual((methods | attributes) & METHODS, set())

    def test_leaving_a_block_only_assigns(self):
        for path in FILES:
            for method in methods_of(ast.parse(path.read_text())):
                if method.name == '__exit__':
                    for node in ast.walk(method):
                        self.assertNotIsInstance(node, (ast.Call, ast.Return, ast.BinOp, ast.For, ast.While), path)
                        if isinstance(node, ast.Compare):
                            self.assertIsInstance(node.ops[0], (ast.Is, ast.IsNot))


if __name__ == '__main__':
    unittest.main()
