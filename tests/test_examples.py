"""Runs every example of the document, as it stands there (tests/examples)."""

import pathlib
import unittest

from rightrecord import errors

FOLDER = pathlib.Path(__file__).parent / 'examples'


def run(lines, names):
    """Run the statements of an example and return the text of what the last one gives."""
    statements = [line[4:] for line in lines if line.startswith('>>> ')]
    for statement in statements[:-1]:
        exec(statement, names)
    return eval(statements[-1], names)


class TestExamples(unittest.TestCase):

    def check(self, lines, names):
        expected = lines[-1]
        if not expected.startswith('raises '):
            self.assertEqual(repr(run(lines, names)), expected)
            return
        error, _, attributes = expected[len('raises '):].partition('(')
        with self.assertRaises(getattr(errors, error)) as caught:
            run(lines, names)
        self.assertEqual(type(caught.exception).__name__, error)
        if attributes:
            self.assertEqual(vars(caught.exception), eval('dict(' + attributes))

    def test_each_example(self):
        shared = {}
        for line in (FOLDER / 'values.txt').read_text().splitlines():
            exec(line[4:], shared)
        for file in sorted(FOLDER.glob('stage*.txt')):
            blocks = file.read_text().strip().split('\n\n')
            self.assertGreaterEqual(len(blocks), 3, file.name)
            for block in blocks:
                with self.subTest(file=file.name, example=block):
                    self.check(block.splitlines(), dict(shared))


if __name__ == '__main__':
    unittest.main()
