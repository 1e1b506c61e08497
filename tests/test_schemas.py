"""Schemas and records (1.2, 1.3)."""

import unittest

from rightrecord.base import schemas
from rightrecord.base.schemas import column_kinds, is_record, is_schema, key_size, record_key, table_names
from rightrecord.errors import InvalidRecord, InvalidSchema, UnknownName
from tests.support import N, S, STRANGE, Case, broken

SIX = tuple((name, 0, ('name',)) for name in 'abcdef')


def table(name='a', size=1, kinds=('name', 'number')):
    return (name, size, kinds)


class TestIsSchema(Case):

    def test_constants(self):
        self.assertEqual(schemas.MAX_TABLES, 6)
        self.assertEqual(schemas.MAX_COLUMNS, 4)

    def test_schemas(self):
        for value in (S, N, SIX, SIX[:1], (table(),), (table('a'), table('aa'), table('b'))):
            self.returns(True, is_schema, value)

    def test_number_of_tables(self):
        self.returns(False, is_schema, ())
        self.returns(True, is_schema, SIX)
        self.returns(False, is_schema, SIX + (('g', 0, ('name',)),))

    def test_tables_ascend_by_their_names(self):
        self.returns(False, is_schema, (table('b'), table('a')))
        self.returns(False, is_schema, (table('a'), table('c'), table('b')))
        self.returns(False, is_schema, (table('aa'), table('a')))

    def test_no_two_tables_have_one_name(self):
        self.returns(False, is_schema, (table('a'), table('a')))
        self.returns(False, is_schema, (table('a', 0), table('a', 1)))
        self.returns(False, is_schema, (table('a'), table('b'), table('b', 2)))

    def test_names_of_tables(self):
        self.returns(True, is_schema, (table('abcdefgh'),))
        for name in ('', 'abcdefghi', 'A', 'Ab', 'a1', 1, None, ('a',), ['a'], {'a': 1}, {}):
            self.returns(False, is_schema, (table(name),))
            self.returns(False, is_schema, (table('a'), table(name)))

    def test_key_sizes(self):
        for kinds in (('name',), ('name',) * 2, ('number',) * 3, ('name',) * 4):
            for size in range(-2, 7):
                self.returns(0 <= size <= len(kinds), is_schema, (table('a', size, kinds),))
        for size in (True, False, None, '1', 'one', (1,), [1], 10 ** 39, -(10 ** 39), {}):
            self.returns(False, is_schema, (table('a', size),))

    def test_columns(self):
        for many in range(7):
            self.returns(1 <= many <= 4, is_schema, (table('a', 0, ('number',) * many),))
        for kinds in (['name'], 'name', ('names',), ('Name',), ('',), (None,), (1,), (True,), (['name'],), (('name',),),
                      ({},), None, {'name': 1}, ('name', 'numbers'), ('numbers', 'name')):
            self.returns(False, is_schema, (table('a', 0, kinds),))

    def test_forms_of_tables(self):
        for value in (('a', 0), ('a', 0, ('name',), ()), (), 'a', ['a', 0, ('name',)], None, ('a', ('name',), 0)):
            self.returns(False, is_schema, (value,))
        self.returns(False, is_schema, list(S))
        self.returns(False, is_schema, S[0])

    def test_any_value(self):
        for value in STRANGE:
            self.returns(False, is_schema, value)
        for schema in (S, N, SIX):
            for value in broken(schema):
                self.returns(False, is_schema, value)


class TestTables(Case):

    def test_names_key_sizes_and_kinds(self):
        self.returns(('city', 'job'), table_names, S)
        self.returns(('full', 'pay', 'rate'), table_names, N)
        self.returns(('a', 'b', 'c', 'd', 'e', 'f'), table_names, SIX)
        self.returns(2, key_size, N, 'full')
        self.returns(1, key_size, N, 'pay')
        self.returns(0, key_size, N, 'rate')
        self.returns(('name', 'number'), column_kinds, N, 'full')
        self.returns(('number', 'number', 'name'), column_kinds, N, 'pay')
        self.returns(('number',), column_kinds, N, 'rate')

    def test_unknown_tables(self):
        for name in ('jobs', 'jo', 'JOB', 'JobX', '') + STRANGE:
            if name != 'job':
                self.fails(UnknownName(name), key_size, S, name)
                self.fails(UnknownName(name), column_kinds, S, name)
                self.fails(UnknownName(name), is_record, S, name, ('ann', 'rome'))
                self.fails(UnknownName(name), record_key, S, name, ('ann', 'rome'))

    def test_an_invalid_schema_comes_first(self):
        error = InvalidSchema('not a schema')
        for schema in list(broken(S)) + list(STRANGE) + [S[::-1], S + S[:1]]:
            self.fails(error, table_names, schema)
            for name in ('job', 'jobs', [], {}):
                self.fails(error, key_size, schema, name)
                self.fails(error, column_kinds, schema, name)
                self.fails(error, is_record, schema, name, ('ann', 'rome'))
                self.fails(error, record_key, schema, name, ('ann', 'rome'))
                self.fails(error, record_key, schema, name, [])


class TestRecords(Case):

    def test_records(self):
        self.returns(True, is_record, S, 'job', ('ann', 'rome'))
        self.returns(True, is_record, N, 'full', ('ann', 10 ** 9))
        self.returns(True, is_record, N, 'full', ('abcdefgh', -(10 ** 9)))
        self.returns(True, is_record, N, 'pay', (0, 1, 'ann'))
        self.returns(True, is_record, N, 'rate', (1,))

    def test_no_records(self):
        for value in (('ann',), ('ann', 'rome', 'rome'), ('ann', 3), (3, 'rome'), ('ann', 'Rome'), ('ann', 'X'), (),
                      ['ann', 'rome'], 'ann', ('ann', None), ('ann', ['rome']), ('ann', {}), ('abcdefghi', 'rome')):
            self.returns(False, is_record, S, 'job', value)
        for value in ((0, 1), (0, 1, 'ann', 0), (True, 1, 'ann'), (0, False, 'ann'), (0, 1, 1), ('ann', 1, 'ann'),
                      (0, 10 ** 9 + 1, 'ann'), (-(10 ** 9) - 1, 0, 'ann'), [0, 1, 'ann']):
            self.returns(False, is_record, N, 'pay', value)
        for value in STRANGE:
            self.returns(repr(value) == '(0,)', is_record, N, 'rate', value)
        for record in (('ann', 'rome'), ('bob', 'cork')):
            for value in broken(record):
                self.returns(False, is_record, S, 'job', value)

    def test_keys(self):
        self.returns(('ann',), record_key, S, 'job', ('ann', 'rome'))
        self.returns(('ann', 1), record_key, N, 'full', ('ann', 1))
        self.returns((0,), record_key, N, 'pay', (0, 1, 'ann'))
        self.returns((), record_key, N, 'rate', (1,))

    def test_keys_of_no_records(self):
        error = InvalidRecord('not a record of the table')
        for value in list(broken((0, 1, 'ann'))) + [(), (0, 1), (0, 1, 2), (0, 1, 'ann', 1)]:
            self.fails(error, record_key, N, 'pay', value)

    def test_the_name_comes_before_the_record(self):
        self.fails(UnknownName('jobs'), record_key, S, 'jobs', [])
        self.fails(UnknownName(['job']), record_key, S, ['job'], ('ann', True))


if __name__ == '__main__':
    unittest.main()
