"""Those rules of the language for the package that can be seen by a look at its files."""

import ast
import pathlib
import re
import unittest

PACKAGE = pathlib.Path(__file__).resolve().parent.parent / 'toldboxes'
FILES = sorted(PACKAGE.rglob('*.py'))
BUILTINS = set(
    'len range enumerate zip min max sum abs sorted reversed int str bool list tuple dict set isinstance ord repr any '
    'all divmod ValueError TypeError KeyError IndexError LookupError NotImplemented iter next map'.split(' '))
BARRED = re.compile(
    r'\b(type|typing|enum|Enum|Generic|Protocol|ABC|namedtuple|NamedTuple|register|mro|elements|law|global|async)\b')
METHODS = set(
    'append clear copy count endswith extend find get index insert isalnum isalpha isdigit items join keys pop remove '
    'replace reverse setdefault split startswith strip update values'.split(' '))
KINDS = (
    ast.Global, ast.AsyncFunctionDef, ast.AsyncFor, ast.AsyncWith, ast.Await, ast.Yield, ast.YieldFrom, ast.GeneratorExp,
    ast.Try, ast.With, ast.Match, ast.NamedExpr, ast.Div, ast.Pow, ast.Delete,
)


# Kinds of statements that stand in few files only, by the files.
LET = {'devices': (ast.Try,), 'records': (ast.Delete,), 'benches': (ast.With,), 'journals': (ast.Try,)}
# Methods that the interface calls so, by the files.
CALLED_SO = {'benches': {'next', 'copy'}}


def methods_of(tree):
    return [part for node in ast.walk(tree) if isinstance(node, ast.ClassDef) for part in node.body
            if isinstance(part, ast.FunctionDef)]


def names_bound(tree):
    """All names that a file gives a meaning, but for methods that the interface calls so."""
    found = set()
    methods = [method for method in methods_of(tree) if method.name == 'next']
    for node in ast.walk(tree):
        if node in methods:
            continue
        if isinstance(node, (ast.FunctionDef, ast.ClassDef, ast.ExceptHandler)):
            found.add(node.name)
        elif isinstance(node, ast.arg):
            found.add(node.arg)
        elif isinstance(node, ast.Name) and isinstance(node.ctx, ast.Store):
            found.add(node.id)
        elif isinstance(node, (ast.Import, ast.ImportFrom)):
            found |= {name.asname or name.name for name in node.names}
    return found


class TestFiles(unittest.TestCase):
    def test_there_are_files(self):
        self.assertGreaterEqual(len(FILES), 19)
        self.assertEqual([path.name for path in PACKAGE.iterdir() if path.suffix != '.py' and path.name != '__pycache__'], [])

    def test_sizes_and_signs(self):
        for path in FILES:
            text = path.read_text(encoding='utf-8')
            lines = text.split('\n')
            self.assertLessEqual(len(lines), 399, path)
            self.assertLessEqual(max(map(len, lines)), 120, path)
            self.assertTrue(set(text) <= set(map(chr, range(32, 127))) | {'\n'}, path)
            for node in ast.walk(ast.parse(text)):
                if isinstance(node, ast.FunctionDef):
                    self.assertLessEqual(node.end_lineno - node.lineno + 1, 40, f'{path} {node.name}')

    def test_module_level(self):
        for path in FILES:
            body = ast.parse(path.read_text()).body
            self.assertIsInstance(body[0], ast.Expr, f'{path}: no docstring')
            for node in body[1:]:
                self.assertIsInstance(node, (ast.ImportFrom, ast.FunctionDef, ast.ClassDef, ast.Assign), path)

    def test_imports(self):
        behind = {}
        for path in FILES:
            tree = ast.parse(path.read_text())
            for node in ast.walk(tree):
                self.assertNotIsInstance(node, ast.Import)
                if isinstance(node, ast.ImportFrom):
                    self.assertEqual((node.level, node.module.split('.')[0]), (0, 'toldboxes'))
                    source = ast.parse((PACKAGE / f'{node.module.split(".")[1]}.py').read_text())
                    defined = {part.name for part in source.body if isinstance(part, (ast.FunctionDef, ast.ClassDef))}
                    defined |= {name.id for part in source.body if isinstance(part, ast.Assign) for name in part.targets}
                    self.assertTrue({name.name for name in node.names} <= defined, path)
                    self.assertTrue(all(name.asname is None for name in node.names))
                    behind.setdefault(path.stem, set()).add(node.module.split('.')[1])
        for name in behind:
            seen, waiting = set(), list(behind[name])
            while waiting:
                found = waiting.pop()
                if found not in seen:
                    seen.add(found)
                    waiting += behind.get(found, ())
            self.assertNotIn(name, seen)

    def test_all_that_is_imported_is_used(self):
        for path in FILES:
            tree = ast.parse(path.read_text())
            imported = {name.name for node in tree.body if isinstance(node, ast.ImportFrom) for name in node.names}
            used = {node.id for node in ast.walk(tree) if isinstance(node, ast.Name)}
            self.assertEqual(imported - used, set(), path)


class TestRules(unittest.TestCase):
    def test_kinds_of_statements(self):
        for path in FILES:
            for node in ast.walk(ast.parse(path.read_text())):
                if isinstance(node, LET.get(path.stem, ())):
                    continue
                self.assertNotIsInstance(node, KINDS, f'{path}:{getattr(node, "lineno", "")}')
                self.assertFalse(isinstance(node, ast.Constant) and isinstance(node.value, float))

    def test_names(self):
        for path in FILES:
            tree = ast.parse(path.read_text())
            bound = names_bound(tree) - {None}
            self.assertEqual(bound & BUILTINS, set(), path)
            for name in bound:
                self.assertTrue(not name.startswith('__') or name in (
                    '__init__', '__eq__', '__len__', '__contains__', '__enter__', '__exit__'), f'{path} {name}')
            code = ast.unparse(self.without_docstrings(tree))
            self.assertIsNone(BARRED.search(code), path)
            self.assertNotIn('%', code)

    def without_docstrings(self, tree):
        for node in ast.walk(tree):
            if isinstance(node, (ast.Module, ast.ClassDef, ast.FunctionDef)) and ast.get_docstring(node) is not None:
                node.body = node.body[1:] or [ast.Pass()]
        return tree

    def test_builtins_that_are_called(self):
        for path in FILES:
            tree = ast.parse(path.read_text())
            known = names_bound(tree) | BUILTINS
            for node in ast.walk(tree):
                if isinstance(node, ast.Name):
                    self.assertIn(node.id, known, path)

    def test_locals_have_no_names_of_imports_and_classes(self):
        for path in FILES:
            tree = ast.parse(path.read_text())
            fixed = {name.name for node in tree.body if isinstance(node, ast.ImportFrom) for name in node.names}
            fixed |= {node.name for node in tree.body if isinstance(node, ast.ClassDef)}
            bound = []
            for node in ast.walk(tree):
                if isinstance(node, ast.arg):
                    bound.append(node.arg)
                elif isinstance(node, ast.Name) and isinstance(node.ctx, ast.Store):
                    bound.append(node.id)
            self.assertEqual(fixed & set(bound), set(), path)

    def test_no_name_is_a_method_and_an_attribute(self):
        methods, attributes = set(), set()
        for path in FILES:
            tree = ast.parse(path.read_text())
            methods |= {method.name for method in methods_of(tree)} - CALLED_SO.get(path.stem, set())
            for node in ast.walk(tree):
                if isinstance(node, ast.Attribute) and isinstance(node.ctx, ast.Store):
                    attributes.add(node.attr)
        self.assertEqual(methods & attributes, set())
        self.assertEqual((methods | attributes) & METHODS, set())


class ExitRows:
    """Looks for what L6 With does not let stand in the rows of __exit__, and of methods of its object that it calls.

    plain: no class of the package has __eq__ or __len__, so that attributes and names may be asked more.
    """

    def __init__(self, tree, plain):
        self.plain = plain
        self.wrong = []
        for node in ast.walk(tree):
            if isinstance(node, ast.ClassDef):
                self.methods = {part.name: part for part in node.body if isinstance(part, ast.FunctionDef)}
                if '__exit__' in self.methods:
                    self.look(self.methods['__exit__'], True)

    def look(self, method, leaving):
        """Goes through one method's rows; leaving: whether it is __exit__ itself, which may call others."""
        names = ['self'] if leaving else [known.arg for known in method.args.args]
        if leaving and ast.unparse(method.args) not in ('self, kind, value, trace', 'self, *told'):
            self.wrong.append(method.lineno)
        for row in method.body:
            self.row(row, names, leaving)

    def row(self, row, names, leaving):
        if isinstance(row, ast.If):
            if not self.is_test(row.test, names, leaving):
                self.wrong.append(row.lineno)
            for part in row.body + row.orelse:
                self.row(part, names, leaving)
        elif not self.is_row(row, names, leaving):
            self.wrong.append(row.lineno)

    def is_row(self, row, names, leaving):
        if isinstance(row, ast.Return):
            told = row.value
            return told is None or isinstance(told, ast.Constant) and (told.value is None or told.value is False)
        if isinstance(row, ast.Assign):
            return len(row.targets) == 1 and is_off(row.targets[0], names) and is_such(row.value, names)
        if isinstance(row, ast.AugAssign):
            return is_off(row.target, names) and is_step(row, names)
        if isinstance(row, ast.Expr) and isinstance(row.value, ast.Call):
            return self.is_call(row.value, names, leaving)
        return isinstance(row, ast.Pass)

    def is_call(self, call, names, leaving):
        if not isinstance(call.func, ast.Attribute) or call.keywords:
            return False
        if is_off(call.func.value, names):
            many = {'append': 1, 'clear': 0}.get(call.func.attr)
            return len(call.args) == many and all(is_such(part, names) for part in call.args)
        method = self.methods.get(call.func.attr)
        if not leaving or method is None or method.name.startswith('__') or call.args:
            return False
        self.look(method, False)
        return isinstance(call.func.value, ast.Name) and call.func.value.id == 'self'

    def is_test(self, test, names, leaving):
        if isinstance(test, ast.BoolOp):
            return all(self.is_test(part, names, leaving) for part in test.values)
        if isinstance(test, ast.UnaryOp):
            return isinstance(test.op, ast.Not) and self.is_test(test.operand, names, leaving)
        if not isinstance(test, ast.Compare):
            return self.plain and is_asked(test, names)
        if len(test.ops) != 1 or not isinstance(test.comparators[0], ast.Constant):
            return False
        if isinstance(test.ops[0], (ast.Is, ast.IsNot)) and test.comparators[0].value is None:
            return is_asked(test.left, names + ['kind'] * leaving)
        signs = (ast.Eq, ast.NotEq, ast.Lt, ast.LtE, ast.Gt, ast.GtE)
        return self.plain and isinstance(test.ops[0], signs) and is_asked(test.left, names)


def is_off(node, names):
    """Whether it is an attribute, however deep, off one of these names."""
    return isinstance(node, ast.Attribute) and is_asked(node.value, names)


def is_asked(node, names):
    return isinstance(node, ast.Name) and node.id in names or is_off(node, names)


def is_number(node):
    return isinstance(node, ast.Constant) and type(node.value) is int


def is_such(node, names):
    """Whether it may be assigned where a block is left."""
    if isinstance(node, (ast.List, ast.Tuple)):
        return all(is_such(part, names) for part in node.elts)
    if isinstance(node, ast.BinOp):
        plus = isinstance(node.op, ast.Add) and is_such(node.right, names)
        return is_such(node.left, names) and (plus or isinstance(node.op, ast.Sub) and is_number(node.right))
    return isinstance(node, ast.Constant) or is_asked(node, names)


def is_step(row, names):
    if isinstance(row.op, ast.Add) and not is_number(row.value):
        known = isinstance(row.value, ast.Constant) and type(row.value.value) is str
        return known or isinstance(row.value, ast.List) and is_such(row.value, names)
    return isinstance(row.op, (ast.Add, ast.Sub)) and is_number(row.value)


# Rows that L6 With lets stand in __exit__, whatever classes the package has.
GOOD_ROWS = (
    'pass', 'return', 'return None', 'return False', 'self.a = 5', 'self.a = None', 'self.a.b = self.c.d', 'self.a = self',
    'self.a = (1, [self.b], "x")', 'self.a = self.b + [1]', 'self.a = self.b - 1', 'self.a += 1', 'self.a += "x"',
    'self.a += [self.b, 1]', 'self.a -= 1', 'self.rows.append(self.a)', 'self.rows.clear()', 'self.shut()',
    'if kind is None: pass', 'if kind is not None or self.a is None: self.b = 1',
    'if not (kind is None and self.a.b is not None): return\nelse: self.b.c = self.a',
    'if self is not None: pass\nelif self.a is None: self.shut()',
)
# Those that it lets stand only where no class of the package has __eq__ or __len__.
PLAIN_ROWS = (
    'if self.kept: pass', 'if not self.kept: pass', 'if kind is not None or not self.kept: self.a = self.b',
    'if self.a == 3: pass', 'if self.a != "x": pass', 'if self.a.b <= 3 and self.c: pass', 'if self: pass',
    'if kind is None: pass\nelif self.kept: pass', 'if kind is None:\n    if self.kept: pass', 'if self.kept == True: pass',
)
BAD_EXIT_ROWS = (
    'return True', 'return 0', 'return self.a', 'return kind', 'return kind is None', 'return 0 - 1', 'raise', 'raise Bad(1)',
    'del self.a', 'assert self.a is None', 'a = 1', 'a = self.a', 'self.a = kind', 'self.a = value', 'self.a = trace',
    'self.a = told', 'self.a = (1, kind)', 'self.a = LIMIT', 'self.a = -1', 'self.a = self.b * 2', 'self.a = self.b - self.c',
    'self.a = self.b()', 'self.a = len(self.b)', 'self.a = self.b[0]', 'self.a[0] = 1', 'self.a[:] = []', 'self.a = not self.b',
    'self.a = self.b is None', 'self.a = self.b and self.c', 'self.a = [b for b in self.c]', 'self.a = {}', 'self.a = {1}',
    'self.a = f"{self.b}"', 'self.a = self.b = 1', 'self.a, self.b = 1, 2', 'self.a: int = 1', 'LIMIT.a = 1', 'kind.a = 1',
    'self.a += self.b', 'self.a += (1,)', 'self.a += [kind]', 'self.a -= self.b', 'self.a -= "x"', 'self.a *= 2',
    'self.rows.append(kind)', 'self.rows.append()', 'self.rows.append(1, 2)', 'self.rows.pop()', 'self.rows.clear(1)',
    'self.rows.extend([1])', 'self.a.b()', 'self.none()', 'self.shut(1)', 'self.shut(at=1)', 'self.loud()', 'self.calling()',
    'self.__enter__()', 'shut()', 'kind.shut()', 'kind', 'self.a', '"told"', 'if kind: pass', 'if not kind: pass',
    'if kind == 1: pass', 'if kind is not self.a: pass', 'if kind is Bad: pass', 'if kind is True: pass', 'if value is None: pass',
    'if trace is None: pass', 'if told is None: pass', 'if self.a is True: pass', 'if self.a is self.b: pass',
    'if None is self.a: pass', 'if self.a == self.b: pass', 'if self.a == -1: pass', 'if 1 < self.a < 3: pass',
    'if self.a in (1, 2): pass', 'if "x" in self.a: pass', 'if self.a(): pass', 'if self.a[0] is None: pass',
    'if self.a + 1: pass', 'if LIMIT: pass', 'if LIMIT is None: pass', 'if True: pass', 'if (a := self.a) is None: pass',
    'if isinstance(value, Bad): pass', 'if kind is None or self.a(): pass', 'if kind is None: self.a = value',
    'if kind is None: pass\nelse: self.a = value', 'if kind is None: pass\nelif kind: pass', 'for _ in self.a: pass',
    'while self.a is None: pass', 'with self.a: pass', 'try:\n    pass\nfinally:\n    pass', 'def a(): pass', 'lambda: 1',
    'match self.a:\n    case _: pass', 'nonlocal a', 'yield', 'self.a if kind is None else self.b',
)
CONTEXT = """
class Context:
    def __enter__(self):
        return self.ready()
    def shut(self):
        self.a = self.b
        if self.a is None:
            self.rows.clear()
    def loud(self):
        self.a = self.b()
    def calling(self):
        self.shut()
    def other(self):
        if self.kept and len(self.rows) > 3:
            self.rows.pop()
    def __exit__({given}):
{rows}
"""


def wrong_rows(rows, plain, given='self, kind, value, trace'):
    lines = '\n'.join('        ' + row for row in rows.split('\n'))
    return ExitRows(ast.parse(CONTEXT.format(given=given, rows=lines)), plain).wrong


class TestBlocks(unittest.TestCase):
    """L6 With."""

    def test_rows_of_exit(self):
        trees = {path: ast.parse(path.read_text()) for path in FILES}
        methods = {method.name for tree in trees.values() for method in methods_of(tree)}
        plain = not {'__eq__', '__len__'} & methods
        self.assertIn('__exit__', methods)
        for path, tree in trees.items():
            self.assertEqual(ExitRows(tree, plain).wrong, [], path)

    def test_what_is_held_and_how_it_is_called(self):
        for path in FILES:
            tree = ast.parse(path.read_text())
            for node in ast.walk(tree):
                if isinstance(node, ast.withitem):
                    self.assertIsInstance(node.context_expr, (ast.Call, ast.Name, ast.Attribute), path)
                    self.assertIsInstance(node.optional_vars, (ast.Name, type(None)), path)
                if isinstance(node, ast.ClassDef):
                    names = {part.name: ast.unparse(part.args) for part in node.body if isinstance(part, ast.FunctionDef)}
                    self.assertEqual('__enter__' in names, '__exit__' in names, path)
                    self.assertEqual(names.get('__enter__', 'self'), 'self', path)

    def test_the_look_itself(self):
        for rows in GOOD_ROWS:
            self.assertEqual((wrong_rows(rows, False), wrong_rows(rows, True)), ([], []), rows)
        for rows in PLAIN_ROWS:
            self.assertEqual(wrong_rows(rows, True), [], rows)
            self.assertNotEqual(wrong_rows(rows, False), [], rows)
        for rows in BAD_EXIT_ROWS:
            for plain in (False, True):
                self.assertNotEqual(wrong_rows(rows, plain), [], rows)
                self.assertNotEqual(wrong_rows('self.a = 1\n' + rows, plain), [], rows)

    def test_the_look_at_what_it_is_called_with(self):
        self.assertEqual(wrong_rows('self.a = 1', False, 'self, *told'), [])
        for given in ('self', 'self, kind', 'self, kind, value', 'self, kind, value, trace, more', 'self, kind, trace, value',
                      '*told', 'self, *more', 'self, kind, *told', 'held, kind, value, trace', 'self, *told, more',
                      'self, kind, value, trace=None', 'self, kind, value, *, trace', 'self, *told, **more'):
            self.assertNotEqual(wrong_rows('pass', False, given), [], given)


if __name__ == '__main__':
    unittest.main()
