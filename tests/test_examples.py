"""Runs every example of the document, as it stands there (tests/examples)."""

import pathlib
import unittest

from rightrecord import errors

FOLDER = pathlib.Path(__file__).parent / 'examples'
DOCUMENT = FOLDER.parent.parent.parent / 'shared' / 'DOC.md'


def run(lines, names):
    """Run the statements of an example and return the text of what the last one gives."""
    statements = [line[4:] for line in lines if line.startswith('>>> ')]
    for statement in statements[:-1]:
        exec(statement, names)
    return eval(statements[-1], names)


class TestExamples(unittest.TestCase):

    def check(self, lines, names):
        expected = lines[-1]
        if not expected.startswith('raises '):
            self.assertEqual(repr(run(lines, names)), expected)
            return
        error, _, attributes = expected[len('raises '):].partition('(')
        with self.assertRaises(getattr(errors, error)) as caught:
            run(lines, names)
        self.assertEqual(type(caught.exception).__name__, error)
        if attributes:
            self.assertEqual(vars(caught.exception), eval('dict(' + attributes))

    def test_each_example(self):
        shared = {}
        for line in (FOLDER / 'values.txt').read_text().splitlines():
            exec(line[4:], shared)
        for file in sorted(FOLDER.glob('stage*.txt')):
            blocks = file.read_text().strip().split('\n\n')
            self.assertGreaterEqual(len(blocks), 2, file.name)
            for block in blocks:
                with self.subTest(file=file.name, example=block):
                    self.check(block.splitlines(), dict(shared))

    @unittest.skipUnless(DOCUMENT.exists(), 'the document is not here')
    def test_no_example_is_left_out_or_changed(self):
        text = DOCUMENT.read_text()
        stages = [stage.partition(':')[0] for stage in text.split('\n## Stage ')[1:]]
        self.assertEqual(stages, [str(number) for number in range(1, 19)])
        shared = (FOLDER / 'values.txt').read_text().splitlines()
        found = []
        for block in text.split('```\n')[1::2]:
            if not set(block.splitlines()) <= set(shared):
                found.append(block.strip())
        kept = [block for file in FOLDER.glob('stage*.txt') for block in file.read_text().strip().split('\n\n')]
        self.assertEqual(sorted(found), sorted(kept))

    def test_the_examples_of_the_readme(self):
        names = {}
        checked = 0
        for block in (FOLDER.parent.parent / 'README.md').read_text().split('```python\n')[1:]:
            for line in block.partition('```')[0].splitlines():
                code, _, expected = line.partition('  # ')
                if expected:
                    # What stands behind the value explains it.
                    self.assertTrue(expected.startswith(repr(eval(code, names))), line)
                    checked += 1
                else:
                    exec(code, names)
        self.assertGreater(checked, 25)


if __name__ == '__main__':
    unittest.main()
