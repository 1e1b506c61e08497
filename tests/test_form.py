"""The form of the package: the rules of the language that can be counted (L1, L2, L8, L10, L14 to L16, L20, L24, L25)."""

import ast
import builtins
import pathlib
import unittest

PACKAGE = pathlib.Path(__file__).parent.parent / 'rightrecord'
FILES = sorted(PACKAGE.rglob('*.py'))
FREE = {'object', 'id', 'format', 'credits', 'license', 'copyright', 'quit', 'callable', 'complex', 'ascii', 'oct',
        'memoryview', 'aiter', 'anext'}
LIBRARY = {'math': {'gcd', 'lcm', 'isqrt', 'comb', 'perm', 'factorial'}}
BUILTINS = set("""len range enumerate zip min max sum abs sorted reversed int str bool list tuple dict set isinstance ord
    repr any all divmod ValueError KeyError IndexError LookupError OverflowError RuntimeError type""".split())
METHODS = set("""append clear copy count endswith extend find get index insert isalnum isalpha isdigit islower isspace
    isupper items join keys ljust lower lstrip partition pop remove replace reverse rfind rjust rpartition rsplit
    rstrip setdefault split splitlines startswith strip update upper values zfill bit_length""".split())


def nodes(file):
    return list(ast.walk(ast.parse(file.read_text())))


def parents(file):
    """Return the pairs of each node and the one that contains it."""
    return [(inner, node) for node in nodes(file) for inner in ast.iter_child_nodes(node)]


class TestForm(unittest.TestCase):

    def test_the_folder_contains_only_files_of_python(self):
        self.assertGreater(len(FILES), 4)
        self.assertLessEqual(len(FILES), 100)
        for path in PACKAGE.rglob('*'):
            if path.is_dir() and path.name != '__pycache__':
                self.assertTrue((path / '__init__.py').exists(), path)
            elif path.is_file() and path.parent.name != '__pycache__':
                self.assertEqual(path.suffix, '.py', path)
                self.assertEqual(path.name, path.name.lower())

    def test_sizes_and_characters(self):
        for file in FILES:
            text = file.read_text()
            self.assertTrue(set(text) <= set(map(chr, range(32, 127))) | {'\n'}, file)
            self.assertLessEqual(len(text.splitlines()), 399, file)
            self.assertLessEqual(max(map(len, text.splitlines())), 120, file)
            for node in nodes(file):
                if isinstance(node, ast.FunctionDef):
                    self.assertLessEqual(node.end_lineno - node.lineno + 1, 40, (file, node.name))

    def test_imports_name_the_file_that_defines_the_name(self):
        for file in FILES:
            for node in nodes(file):
                self.assertNotIsInstance(node, ast.Import, file)
                if isinstance(node, ast.ImportFrom) and node.module in LIBRARY:
                    self.assertLessEqual({alias.name for alias in node.names}, LIBRARY[node.module], file)
                elif isinstance(node, ast.ImportFrom):
                    self.assertEqual((node.level, node.module.split('.')[0]), (0, 'rightrecord'), file)
                    source = PACKAGE.parent.joinpath(*node.module.split('.')).with_suffix('.py')
                    defined = {name.id for one in ast.parse(source.read_text()).body if isinstance(one, ast.Assign)
                               for name in one.targets}
                    defined |= {one.name for one in ast.parse(source.read_text()).body
                                if isinstance(one, (ast.FunctionDef, ast.ClassDef))}
                    for alias in node.names:
                        self.assertIn(alias.name, defined, file)

    def test_each_import_is_used(self):
        for file in FILES:
            imported = [alias.name for node in nodes(file) if isinstance(node, ast.ImportFrom) for alias in node.names]
            used = {node.id for node in nodes(file) if isinstance(node, ast.Name)}
            self.assertEqual(sorted(set(imported) - used), [], file)
            self.assertEqual(len(imported), len(set(imported)), file)

    def test_no_name_of_a_builtin_and_no_name_of_an_import_is_bound(self):
        for file in FILES:
            taken = set(dir(builtins)) - FREE
            for node in nodes(file):
                if isinstance(node, ast.ImportFrom):
                    taken |= {alias.name for alias in node.names}
                if isinstance(node, ast.ClassDef):
                    taken.add(node.name)
            for node in nodes(file):
                if isinstance(node, ast.arg):
                    self.assertNotIn(node.arg, taken, file)
                if isinstance(node, ast.Name) and not isinstance(node.ctx, ast.Load):
                    self.assertNotIn(node.id, taken, file)
                if isinstance(node, ast.FunctionDef) and not node.name.startswith('__'):
                    self.assertNotIn(node.name, taken, file)

    def test_what_the_language_leaves_out(self):
        barred = (ast.AsyncFunctionDef, ast.Await, ast.Global, ast.GeneratorExp, ast.Yield, ast.YieldFrom)
        for file in FILES:
            for node in nodes(file):
                self.assertNotIsInstance(node, barred, file)
                self.assertFalse(isinstance(node, ast.Constant) and isinstance(node.value, float), file)
                self.assertFalse(isinstance(node, ast.BinOp) and isinstance(node.op, ast.Div), file)

    def test_builtins_and_methods(self):
        own = {node.name for file in FILES for node in nodes(file) if isinstance(node, ast.FunctionDef)}
        for file in FILES:
            for node in nodes(file):
                if isinstance(node, ast.Name) and node.id in dir(builtins):
                    self.assertIn(node.id, BUILTINS, file)
                if isinstance(node, ast.Call) and isinstance(node.func, ast.Attribute):
                    self.assertIn(node.func.attr, METHODS | own, file)
                    self.assertEqual(node.keywords, [], file)

    def test_comparisons_by_is(self):
        for file in FILES:
            for node in nodes(file):
                if isinstance(node, ast.Compare) and isinstance(node.ops[0], (ast.Is, ast.IsNot)):
                    other = node.comparators[0]
                    of_class = (ast.unparse(node.left).startswith('type(')
                                and ast.unparse(other) in ('int', 'str', 'tuple', 'dict'))
                    self.assertTrue(of_class or ast.unparse(other) in ('None', 'True', 'False'), file)

    def test_sets_stand_where_they_may(self):
        for file in FILES:
            for node, outer in parents(file):
                if isinstance(node, (ast.Set, ast.SetComp)) or (isinstance(node, ast.Call)
                                                                and isinstance(node.func, ast.Name)
                                                                and node.func.id in ('set', 'frozenset')):
                    called = isinstance(outer, ast.Call) and outer.func.id in ('sorted', 'len')
                    self.assertTrue(called or isinstance(outer, ast.Compare), (file, node.lineno))

    def test_no_two_files_import_from_each_other(self):
        imports = {}
        for file in FILES:
            module = '.'.join(file.relative_to(PACKAGE.parent).with_suffix('').parts)
            imports[module] = {node.module for node in nodes(file) if isinstance(node, ast.ImportFrom)}
        left = dict(imports)
        while left:
            free = [module for module in left if not left[module] & set(left)]
            self.assertTrue(free, sorted(left))
            for module in free:
                del left[module]


if __name__ == '__main__':
    unittest.main()
