"""Names, variables and values (0.1, 0.2, 1.1)."""

import unittest

from rightrecord.base.values import is_name, is_variable, value_kind
from tests.support import Case, STRANGE


class TestValues(Case):

    def test_names(self):
        for value in ('a', 'z', 'ann', 'abcdefgh', 'true', 'none'):
            self.returns(True, is_name, value)
        for value in ('', 'abcdefghi', 'Ann', 'anN', 'a1', 'a b', ' a', 'a ', 'a_b', 'a-b', 'a`', 'a{', 'ANN', '\n',
                      'a\n', 'a' * 40, b'ann', ('a',), ['a'], {'a': 1}, {'a'}, 1, True, None, '\xe4', '\xdf', '\xb5'):
            self.returns(False, is_name, value)

    def test_each_character_of_names_and_variables(self):
        for code in range(256):
            letter = chr(code)
            for text in (letter, 'a' + letter, letter + 'a'):
                self.returns(letter in 'abcdefghijklmnopqrstuvwxyz', is_name, text)
            for text in (letter, 'A' + letter, letter + 'A'):
                self.returns(letter in 'ABCDEFGHIJKLMNOPQRSTUVWXYZ', is_variable, text)

    def test_variables(self):
        for value in ('A', 'Z', 'XY', 'ABCD'):
            self.returns(True, is_variable, value)
        for value in ('', 'ABCDE', 'Ab', 'aB', 'ab', 'A1', 'A B', 'A\n', '_', '@', '[', b'AB', ('A',), ['A'],
                      {'A': 1}, {'A'}, 1, True, None):
            self.returns(False, is_variable, value)

    def test_kinds(self):
        for value in ('a', 'ann', 'abcdefgh'):
            self.returns('name', value_kind, value)
        for value in (0, 1, -1, 7, 10 ** 9, -(10 ** 9), 10 ** 9 - 1):
            self.returns('number', value_kind, value)
        for value in (10 ** 9 + 1, -(10 ** 9) - 1, 10 ** 39, -(10 ** 39), True, False, None, '', 'X', 'Ann',
                      'abcdefghi', '7', (), (7,), [7], {7: 7}, ('ann',), ['ann'], ([],)):
            self.returns(None, value_kind, value)

    def test_any_value(self):
        for value in STRANGE:
            self.returns(isinstance(value, str) and value in ('ann', 'job'), is_name, value)
            self.returns(isinstance(value, str) and value == 'ANN', is_variable, value)


if __name__ == '__main__':
    unittest.main()
