"""The form of the package: the rules of the language that can be counted (L1, L2, L10, L14, L15, L16)."""

import ast
import builtins
import pathlib
import unittest

PACKAGE = pathlib.Path(__file__).parent.parent / 'rightrecord'
FILES = sorted(PACKAGE.rglob('*.py'))
FREE = {'object', 'id', 'format', 'credits', 'license', 'copyright', 'quit', 'callable', 'complex', 'ascii', 'oct',
        'memoryview', 'aiter', 'anext'}


def nodes(file):
    return list(ast.walk(ast.parse(file.read_text())))


class TestForm(unittest.TestCase):

    def test_the_folder_contains_only_files_of_python(self):
        self.assertGreater(len(FILES), 4)
        self.assertLessEqual(len(FILES), 100)
        for path in PACKAGE.rglob('*'):
            if path.is_dir() and path.name != '__pycache__':
                self.assertTrue((path / '__init__.py').exists(), path)
            elif path.is_file() and path.parent.name != '__pycache__':
                self.assertEqual(path.suffix, '.py', path)
                self.assertEqual(path.name, path.name.lower())

    def test_sizes_and_characters(self):
        for file in FILES:
            text = file.read_text()
            self.assertTrue(set(text) <= set(map(chr, range(32, 127))) | {'\n'}, file)
            self.assertLessEqual(len(text.splitlines()), 399, file)
            self.assertLessEqual(max(map(len, text.splitlines())), 120, file)
            for node in nodes(file):
                if isinstance(node, ast.FunctionDef):
                    self.assertLessEqual(node.end_lineno - node.lineno + 1, 40, (file, node.name))

    def test_imports_name_the_file_that_defines_the_name(self):
        for file in FILES:
            for node in nodes(file):
                self.assertNotIsInstance(node, ast.Import, file)
                if isinstance(node, ast.ImportFrom):
                    self.assertEqual((node.level, node.module.split('.')[0]), (0, 'rightrecord'), file)
                    source = PACKAGE.parent.joinpath(*node.module.split('.')).with_suffix('.py')
                    defined = {name.id for one in ast.parse(source.read_text()).body if isinstance(one, ast.Assign)
                               for name in one.targets}
                    defined |= {one.name for one in ast.parse(source.read_text()).body
                                if isinstance(one, (ast.FunctionDef, ast.ClassDef))}
                    for alias in node.names:
                        self.assertIn(alias.name, defined, file)

    def test_each_import_is_used(self):
        for file in FILES:
            imported = [alias.name for node in nodes(file) if isinstance(node, ast.ImportFrom) for alias in node.names]
            used = {node.id for node in nodes(file) if isinstance(node, ast.Name)}
            self.assertEqual(sorted(set(imported) - used), [], file)
            self.assertEqual(len(imported), len(set(imported)), file)

    def test_no_name_of_a_builtin_and_no_name_of_an_import_is_bound(self):
        for file in FILES:
            taken = set(dir(builtins)) - FREE
            for node in nodes(file):
                if isinstance(node, ast.ImportFrom):
                    taken |= {alias.name for alias in node.names}
                if isinstance(node, ast.ClassDef):
                    taken.add(node.name)
            for node in nodes(file):
                if isinstance(node, ast.arg):
                    self.assertNotIn(node.arg, taken, file)
                if isinstance(node, ast.Name) and not isinstance(node.ctx, ast.Load):
                    self.assertNotIn(node.id, taken, file)
                if isinstance(node, ast.FunctionDef) and not node.name.startswith('__'):
                    self.assertNotIn(node.name, taken, file)

    def test_what_the_language_leaves_out(self):
        barred = (ast.AsyncFunctionDef, ast.Await, ast.Global, ast.GeneratorExp, ast.Yield, ast.YieldFrom)
        for file in FILES:
            for node in nodes(file):
                self.assertNotIsInstance(node, barred, file)
                self.assertFalse(isinstance(node, ast.Constant) and isinstance(node.value, float), file)
                self.assertFalse(isinstance(node, ast.BinOp) and isinstance(node.op, ast.Div), file)


if __name__ == '__main__':
    unittest.main()
