"""Closures and attacks (5.1, 5.2)."""

import itertools
import unittest

from rightrecord.attack.closures import (attack_path, attacked_variables, implied_variables, is_attack_path,
                                         unattacked_variables)
from rightrecord.errors import InvalidNumber, InvalidQuery, InvalidSchema, UnknownName
from tests import oracle
from tests.support import N, S, STRANGE, Case, broken

Q = (('P', 'C'), (('job', ('P', 'T')), ('city', ('T', 'C'))))
U = (('left', 1, ('name', 'name')), ('right', 1, ('name', 'name')))
W = ((), (('left', ('X', 'Y')), ('right', ('Y', 'X'))))
R = (('X', 'P'), (('pay', ('X', 1, 'P')), ('full', ('P', 0)), ('rate', ('Y',))))
# Tables without key, with one key column, with nothing but key columns.
A = (('a', 0, ('name', 'name')), ('b', 1, ('name', 'name')), ('c', 2, ('name', 'name')), ('d', 1, ('name', 'name')))
CHAIN = ((), (('b', ('X', 'Y')), ('d', ('Y', 'Z')), ('c', ('Z', 'V')), ('a', ('V', 'W'))))
INPUTS = oracle.random_inputs(5, 250) + oracle.random_inputs(6, 250, kinds=('name',), tables=5)
NO_INDICES = (-1, 2, 3, True, False, None, '0', 'ann', (), (0,), [], [0], {}, {0: 0}, 10 ** 39)


class TestClosures(Case):

    def test_implied_variables(self):
        self.returns((), implied_variables, S, Q, 0)
        self.returns(('T',), implied_variables, S, Q, 1)
        self.returns(('P',), implied_variables, S, ((), Q[1]), 0)
        self.returns(('P', 'T'), implied_variables, S, ((), (('city', ('P', 'C')), ('job', ('P', 'T')))), 0)
        # The last atom has no key variables, so it adds all its variables, unless it is the one that is asked.
        self.returns(('V', 'W', 'X'), implied_variables, A, CHAIN, 0)
        self.returns(('V', 'W', 'Y'), implied_variables, A, CHAIN, 1)
        self.returns(('V', 'W', 'Z'), implied_variables, A, CHAIN, 2)
        self.returns((), implied_variables, A, CHAIN, 3)

    def test_an_atom_implies_by_its_own_key_only_through_others(self):
        self.returns(('X',), implied_variables, A, ((), (('b', ('X', 'Y')),)), 0)
        self.returns(('X', 'Y'), implied_variables, A, ((), (('b', ('X', 'Y')), ('d', ('X', 'Y')))), 0)
        self.returns(('X', 'Y'), implied_variables, A, ((), (('c', ('X', 'Y')),)), 0)
        self.returns((), implied_variables, A, ((), (('b', ('ann', 'Y')),)), 0)

    def test_closures_of_several_rounds(self):
        ring = ((), (('c', ('X', 'X')), ('d', ('Z', 'V')), ('b', ('X', 'Z')), ('a', ('X', 'Y'))))
        self.returns(('V', 'X', 'Y', 'Z'), implied_variables, A, ring, 0)
        self.returns(('V', 'X', 'Y', 'Z'), implied_variables, A, (ring[0], ring[1][::-1]), 3)
        self.returns((), implied_variables, A, ring, 3)

    def test_attacked_variables(self):
        self.returns(('T',), attacked_variables, S, Q, 0)
        self.returns((), attacked_variables, S, Q, 1)
        self.returns(('C', 'T'), attacked_variables, S, ((), Q[1]), 0)
        self.returns(('C',), attacked_variables, S, ((), Q[1]), 1)
        self.returns(('Y',), attacked_variables, U, W, 0)
        self.returns(('X',), attacked_variables, U, W, 1)
        self.returns(('Y', 'Z'), attacked_variables, A, CHAIN, 0)
        self.returns(('Z',), attacked_variables, A, ((), (('d', ('Y', 'Z')), ('b', ('X', 'Y')))), 0)
        self.returns(('V', 'W', 'X', 'Y', 'Z'), attacked_variables, A, CHAIN, 3)
        self.returns((), attacked_variables, A, ((), (('c', ('X', 'Y')),)), 0)
        self.returns(('X', 'Y'), attacked_variables, A, ((), (('a', ('X', 'Y')),)), 0)

    def test_unattacked_variables(self):
        self.returns(('P',), unattacked_variables, S, ((), Q[1]))
        self.returns((), unattacked_variables, S, Q)
        self.returns((), unattacked_variables, U, W)
        self.returns((), unattacked_variables, U, (('Y',), W[1]))
        self.returns(('X',), unattacked_variables, U, ((), (('left', ('X', 'Y')),)))
        self.returns(('X', 'Y'), unattacked_variables, A, ((), (('c', ('Y', 'X')),)))
        self.returns((), unattacked_variables, A, ((), (('c', ('ann', 'bob')),)))

    def test_against_the_definition(self):
        for schema, query, _ in INPUTS:
            attacked = set()
            for index in range(len(query[1])):
                self.returns(tuple(sorted(oracle.implied(schema, query, index))), implied_variables, schema, query,
                             index)
                own = {path[-1] for path in oracle.attack_paths(schema, query, index)}
                self.returns(tuple(sorted(own)), attacked_variables, schema, query, index)
                attacked |= own
            self.returns(tuple(sorted(oracle.variables(query) - attacked)), unattacked_variables, schema, query)


class TestPaths(Case):

    def test_paths_against_the_definition(self):
        for schema, query, _ in INPUTS:
            for index in range(len(query[1])):
                paths = oracle.attack_paths(schema, query, index)
                for variable in oracle.variables(query):
                    path = attack_path(schema, query, index, variable)
                    self.assertEqual(path, attack_path(schema, query, index, variable))
                    if variable in {path[-1] for path in paths}:
                        self.assertIs(type(path), tuple)
                        self.assertIn(path, paths)
                        self.assertEqual(path[-1], variable)
                        self.returns(True, is_attack_path, schema, query, index, variable, path)
                    else:
                        self.assertIsNone(path)

    def test_is_attack_path_against_the_definition(self):
        for schema, query, _ in INPUTS[::4]:
            used = sorted(oracle.variables(query))
            tried = [path for many in range(4) for path in itertools.product(used + list(query[0]), repeat=many)]
            for index in range(len(query[1])):
                paths = set(oracle.attack_paths(schema, query, index))
                for variable in used:
                    for path in list(paths) + tried:
                        right = path in paths and path[-1] == variable
                        if is_attack_path(schema, query, index, variable, path) is not right:
                            self.fail((schema, query, index, variable, path))

    def test_a_long_path(self):
        path = ('Y', 'Z', 'V', 'W')
        tables = tuple((name, 1, ('name', 'name')) for name in 'abcd')
        atoms = (('a', ('X', 'Y')), ('b', ('Y', 'Z')), ('c', ('Z', 'V')), ('d', ('V', 'W')))
        self.returns(path, attack_path, tables, ((), atoms), 0, 'W')
        self.returns(None, attack_path, tables, ((), atoms), 1, 'Y')
        self.returns(None, attack_path, tables, ((), atoms), 0, 'X')
        self.returns(True, is_attack_path, tables, ((), atoms), 0, 'W', path)
        for value in (path[1:], path[:-1], path[::-1], path[:2] + path[3:], ('X',) + path, path + ('W',),
                      ('Y', 'Z', 'Y', 'Z', 'V', 'W'), list(path), (), (path,), path[:-1] + ('w',)):
            self.returns(False, is_attack_path, tables, ((), atoms), 0, 'W', value)
        for value in broken(path):
            self.returns(False, is_attack_path, tables, ((), atoms), 0, 'W', value)
        self.returns(None, attack_path, tables, (('Z',), atoms), 0, 'W')

    def test_any_value(self):
        for value in list(broken(('Y',))) + list(STRANGE) + [('X',), ('Y', 'Y'), 'Y', ['Y']]:
            self.returns(False, is_attack_path, U, W, 0, 'Y', value)
        self.returns(True, is_attack_path, U, W, 0, 'Y', ('Y',))
        self.returns(False, is_attack_path, U, W, 0, 'X', ('X',))
        self.returns(False, is_attack_path, U, W, 0, 'X', ('Y', 'X'))
        self.returns(False, is_attack_path, S, Q, 0, 'T', ('P', 'T'))
        self.returns(False, is_attack_path, S, Q, 0, 'T', ('C', 'T'))


class TestErrors(Case):

    def everything(self, error, schema, query, index, variable):
        self.fails(error, implied_variables, schema, query, index)
        self.fails(error, attacked_variables, schema, query, index)
        self.fails(error, attack_path, schema, query, index, variable)
        self.fails(error, is_attack_path, schema, query, index, variable, ('T',))
        self.fails(error, is_attack_path, schema, query, index, variable, [])

    def test_an_invalid_schema_comes_first(self):
        for schema in list(broken(S)) + list(STRANGE):
            for query, index, variable in ((Q, 0, 'T'), (None, True, 'P'), ([], [], {})):
                self.everything(InvalidSchema('why'), schema, query, index, variable)
                self.fails(InvalidSchema('why'), unattacked_variables, schema, query)

    def test_an_invalid_query_comes_next(self):
        for query in list(broken(Q)) + list(STRANGE) + [R, (('P', 'P'), Q[1]), ((), Q[1] + Q[1])]:
            for index, variable in ((0, 'T'), (True, 'P'), ([], {})):
                self.everything(InvalidQuery('why'), S, query, index, variable)
            self.fails(InvalidQuery('why'), unattacked_variables, S, query)

    def test_invalid_numbers(self):
        for index in NO_INDICES:
            for variable in ('T', 'P', [], None):
                self.everything(InvalidNumber(index), S, Q, index, variable)
        self.fails(InvalidNumber(1), implied_variables, N, ((), R[1][:1]), 1)

    def test_unknown_variables(self):
        for variable in ('P', 'C', 'X', 'TT', 't', '', 'ann', None, True, 0, ('T',), ['T'], [], {}, {'T': 1}):
            for index in (0, 1):
                self.fails(UnknownName(variable), attack_path, S, Q, index, variable)
                self.fails(UnknownName(variable), is_attack_path, S, Q, index, variable, ('T',))
                self.fails(UnknownName(variable), is_attack_path, S, Q, index, variable, None)
        for variable in ('X', 'P', 1, 0):
            self.fails(UnknownName(variable), attack_path, N, R, 0, variable)


if __name__ == '__main__':
    unittest.main()
