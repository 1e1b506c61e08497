"""Databases and groups of records (2.1, 2.2)."""

import itertools
import unittest

from rightrecord.data import databases
from rightrecord.data.databases import (conflicting_groups, group_names, group_records, is_database, make_database,
                                        table_rows, with_record, without_record)
from rightrecord.errors import InvalidDatabase, InvalidRecord, InvalidSchema, TooMany, UnknownGroup, UnknownName
from tests.support import D, DEEP, M, M_GROUPS, N, S, STRANGE, Case, broken

LETTERS = 'abcdefghijklmnopqrstuvwxyz'
T = (('free', 0, ('number',)), ('keyed', 1, ('name', 'number')), ('set', 2, ('number', 'name')))
EMPTY = (S, ((), ()))


def numbered(count, group=1):
    """Return ascending records of the table keyed, in groups of a size."""
    return tuple((LETTERS[at // group // 26] + LETTERS[at // group % 26], at % group) for at in range(count))


def placed(table, records):
    return tuple((table, record) for record in records)


FORTY = (T, (tuple((at,) for at in range(5)), numbered(20, 5), tuple((at, 'ann') for at in range(15))))
PAIRS = tuple(pair for name, rows in zip(('free', 'keyed', 'set'), FORTY[1]) for pair in placed(name, rows))


class TestIsDatabase(Case):

    def test_constants(self):
        self.assertEqual(databases.MAX_RECORDS, 40)
        self.assertEqual(databases.MAX_GROUP, 6)

    def test_databases(self):
        for value in (D, M, EMPTY, FORTY, (T, ((), (), ()))):
            self.returns(True, is_database, value)

    def test_one_entry_for_each_table(self):
        for rows in ((), ((),), ((), (), ())):
            self.returns(False, is_database, (S, rows))
        self.returns(False, is_database, (S, D[1][::-1] + ((),)))
        self.returns(False, is_database, (S,))
        self.returns(False, is_database, D + ((),))
        self.returns(False, is_database, D[::-1])

    def test_rows_ascend(self):
        for rows in ((('b', 1), ('a', 1)), (('a', 1), ('a', 1)), (('a', 2), ('a', 1)), (('a', 1), ('c', 1), ('b', 1)),
                     (('a', 1), ('b', 1), ('b', 1)), (('a', -1), ('a', -2))):
            self.returns(False, is_database, (T, ((), rows, ())))
            self.returns(True, is_database, (T, ((), tuple(sorted(set(rows))), ())))

    def test_at_most_forty_records(self):
        self.returns(True, is_database, FORTY)
        free, keyed, rest = FORTY[1]
        self.returns(False, is_database, (T, (free + ((5,),), keyed, rest)))
        self.returns(False, is_database, (T, (free, keyed, rest + ((15, 'ann'),))))
        self.returns(True, is_database, (T, ((), numbered(40), ())))
        self.returns(False, is_database, (T, ((), numbered(41), ())))

    def test_at_most_six_records_in_a_group(self):
        for many in range(9):
            records = tuple(('ann', at) for at in range(many))
            self.returns(many <= 6, is_database, (T, ((), records, ())))
            self.returns(many <= 6, is_database, (T, ((), (('aa', 5),) + records + (('bob', 5),), ())))
            self.returns(many <= 6, is_database, (T, (tuple((at,) for at in range(many)), (), ())))
            self.returns(True, is_database, (T, ((), (), tuple((1, LETTERS[at]) for at in range(many)))))

    def test_records_of_another_table(self):
        self.returns(False, is_database, (T, ((('ann', 1),), (), ())))
        self.returns(False, is_database, (T, ((), ((1, 'ann'),), ())))
        self.returns(False, is_database, (T, ((), ((1,),), ())))

    def test_any_value(self):
        for value in STRANGE:
            self.returns(False, is_database, value)
            self.returns(False, is_database, (value, D[1]))
        for database in (D, M, EMPTY):
            for value in broken(database):
                self.returns(False, is_database, value)


class TestMakeDatabase(Case):

    def test_order_and_repetitions_do_not_matter(self):
        pairs = tuple(pair for at, name in enumerate(('city', 'job')) for pair in placed(name, D[1][at]))
        self.returns(D, make_database, S, pairs)
        self.returns(D, make_database, S, pairs[::-1])
        self.returns(D, make_database, S, pairs[3:] + pairs + pairs[::-2])
        for order in itertools.permutations(pairs[3:]):
            self.returns(D, make_database, S, pairs[:3] + order + order[:2])
        self.returns(EMPTY, make_database, S, ())
        self.returns((S, ((), (('ann', 'lyon'),))), make_database, S, (('job', ('ann', 'lyon')),) * 100)

    def test_one_record_in_two_tables(self):
        self.returns((S, ((('ann', 'lyon'),), (('ann', 'lyon'),))), make_database, S,
                     (('job', ('ann', 'lyon')), ('city', ('ann', 'lyon'))))

    def test_numbers_ascend_as_numbers(self):
        pairs = placed('free', ((10,), (9,), (-1,), (-10,), (0,)))
        self.returns((T, (((-10,), (-1,), (0,), (9,), (10,)), (), ())), make_database, T, pairs)

    def test_invalid_schemas_come_first(self):
        for schema in list(broken(S)) + list(STRANGE):
            for records in ((), None, [], (('job', ('ann',)),), placed('keyed', numbered(41))):
                self.fails(InvalidSchema('why'), make_database, schema, records)

    def test_invalid_records(self):
        for pair in (('job', ('ann',)), ('jobs', ('ann', 'lyon')), ['job', ('ann', 'lyon')], ('job', ['ann', 'lyon']),
                     ('job', ('ann', 'lyon'), 'eve'), ('job',), (), (('ann', 'lyon'), 'job'), ('job', ('ann', 3)),
                     (['job'], ('ann', 'lyon')), ({}, ('ann', 'lyon')), (None, ('ann', 'lyon')), ('job', None),
                     ('job', ({}, 'lyon')), None, True, 'job', {'job': ('ann', 'lyon')}, DEEP):
            self.fails(InvalidRecord('why'), make_database, S, (pair,))
            self.fails(InvalidRecord('why'), make_database, S, (('job', ('ann', 'lyon')), pair))
        for records in (None, 'job', [], [('job', ('ann', 'lyon'))], {}, {'job': ('ann', 'lyon')}, 3, True,
                        ('job', ('ann', 'lyon'))):
            self.fails(InvalidRecord('why'), make_database, S, records)
        for record in ((True, 1, 'ann'), (0, False, 'ann')):
            self.fails(InvalidRecord('why'), make_database, N, (('pay', record),))

    def test_invalid_records_come_before_the_limits(self):
        many = placed('keyed', numbered(41)) + placed('free', ((at,) for at in range(7)))
        self.fails(InvalidRecord('why'), make_database, T, many + (('keyed', ('ann',)),))
        self.fails(InvalidRecord('why'), make_database, T, list(many))
        self.fails(InvalidRecord('why'), make_database, T, many + (('free', (True,)),))

    def test_forty_different_pairs(self):
        self.returns(FORTY, make_database, T, PAIRS)
        self.returns(FORTY, make_database, T, PAIRS[::-1] + PAIRS)
        self.fails(TooMany(40), make_database, T, PAIRS + (('free', (5,)),))
        self.fails(TooMany(40), make_database, T, (('set', (99, 'ann')),) + PAIRS)

    def test_six_records_in_a_group(self):
        six = placed('free', ((at,) for at in range(6)))
        self.returns((T, (tuple((at,) for at in range(6)), (), ())), make_database, T, six + six)
        self.fails(TooMany(6), make_database, T, six + (('free', (6,)),))
        six = placed('keyed', (('ann', at) for at in range(6)))
        self.returns((T, ((), tuple(('ann', at) for at in range(6)), ())), make_database, T, six)
        self.fails(TooMany(6), make_database, T, six + (('keyed', ('ann', 6)),))
        self.fails(TooMany(6), make_database, T, (('keyed', ('ann', 6)),) + six[::-1])

    def test_too_many_pairs_come_before_too_large_groups(self):
        seven = placed('free', ((at,) for at in range(7)))
        self.fails(TooMany(40), make_database, T, seven + placed('keyed', numbered(34)))
        self.fails(TooMany(6), make_database, T, seven + placed('keyed', numbered(33)))


class TestGroups(Case):

    def test_rows(self):
        self.returns(D[1][0], table_rows, D, 'city')
        self.returns(D[1][1], table_rows, D, 'job')
        self.returns((), table_rows, EMPTY, 'job')
        self.returns(M[1][2], table_rows, M, 'rate')

    def test_names(self):
        self.returns(M_GROUPS, group_names, M)
        self.returns((), group_names, EMPTY)
        names = (('free', ()), ('keyed', ('aa',)), ('keyed', ('ab',)), ('keyed', ('ac',)), ('keyed', ('ad',)))
        self.returns(names + tuple(('set', (at, 'ann')) for at in range(15)), group_names, FORTY)
        self.returns((('full', ('ann', -5)), ('full', ('ann', 3)), ('full', ('ann', 20))), group_names,
                     (N, ((('ann', -5), ('ann', 3), ('ann', 20)), (), ())))

    def test_records(self):
        self.returns((('ann', 0),), group_records, M, 'full', ('ann', 0))
        self.returns(((0, 1, 'ann'),), group_records, M, 'pay', (0,))
        self.returns(((1, 0, 'bob'), (1, 1, 'ann')), group_records, M, 'pay', (1,))
        self.returns(((0,), (1,), (5,)), group_records, M, 'rate', ())
        self.returns((('ann', 'lyon'), ('ann', 'nice')), group_records, D, 'job', ('ann',))

    def test_all_records_are_in_one_group(self):
        for database in (D, M, FORTY):
            for entry, rows in zip(*database):
                records = [group_records(database, *name) for name in group_names(database) if name[0] == entry[0]]
                self.assertEqual(sum(records, ()), rows)

    def test_conflicting_groups(self):
        self.returns((('pay', (1,)), ('rate', ())), conflicting_groups, M)
        self.returns((), conflicting_groups, EMPTY)
        names = (('free', ()), ('keyed', ('aa',)), ('keyed', ('ab',)), ('keyed', ('ac',)), ('keyed', ('ad',)))
        self.returns(names, conflicting_groups, FORTY)
        self.returns((), conflicting_groups, (T, (((3,),), numbered(26), ((1, 'ann'), (1, 'bob')))))

    def test_unknown_groups(self):
        for key in (('eve',), (), ('ann', 'lyon'), ('Ann',), 'ann', ['ann'], (['ann'],), {'ann': 1}, ({},), None, True,
                    (True,), (1,), 0, DEEP):
            self.fails(UnknownGroup(('job', key)), group_records, D, 'job', key)
        # True equals 1, but it is no key.
        for key in ((True,), (False,), [1], 1, (2,), (1, 1), ('ann',), ()):
            self.fails(UnknownGroup(('pay', key)), group_records, M, 'pay', key)
        self.fails(UnknownGroup(('full', ('ann', True))), group_records, M, 'full', ('ann', True))
        for key in ((0,), [], None, '', False, {}):
            self.fails(UnknownGroup(('rate', key)), group_records, M, 'rate', key)
        self.fails(UnknownGroup(('free', ())), group_records, (T, ((), (), ())), 'free', ())
        self.fails(UnknownGroup(('city', ('ann',))), group_records, D, 'city', ('ann',))

    def test_unknown_names_come_before_the_group(self):
        for name in ('jobs', 'Job', '') + STRANGE:
            if name != 'job':
                self.fails(UnknownName(name), table_rows, D, name)
                self.fails(UnknownName(name), group_records, D, name, ('ann',))
                self.fails(UnknownName(name), group_records, D, name, [])

    def test_an_invalid_database_comes_first(self):
        invalid = [(S, (D[1][0][::-1], D[1][1])), (T, ((), numbered(41), ())), (T, ((), numbered(7, 7), ())), (S, ())]
        for database in list(broken(D)) + list(STRANGE) + invalid:
            error = InvalidDatabase('why')
            self.fails(error, group_names, database)
            self.fails(error, conflicting_groups, database)
            for name in ('job', 'jobs', []):
                self.fails(error, table_rows, database, name)
                self.fails(error, group_records, database, name, ('ann',))
                self.fails(error, group_records, database, name, [])
                self.fails(error, with_record, database, name, ('ann', 'rome'))
                self.fails(error, without_record, database, name, ('ann', 'rome'))
                self.fails(error, with_record, database, name, None)
                self.fails(error, without_record, database, name, {})


class TestChangedDatabases(Case):

    def test_added(self):
        self.returns((S, ((), (('ann', 'rome'),))), with_record, EMPTY, 'job', ('ann', 'rome'))
        rows = (('ann', 'lyon'), ('ann', 'metz'), ('ann', 'nice'), ('bob', 'cork'), ('bob', 'lyon'))
        self.returns((S, (D[1][0], rows)), with_record, D, 'job', ('ann', 'metz'))
        self.returns((N, (M[1][0], M[1][1], ((-3,), (0,), (1,), (5,)))), with_record, M, 'rate', (-3,))

    def test_removed(self):
        self.returns((S, (D[1][0], D[1][1][1:])), without_record, D, 'job', ('ann', 'lyon'))
        self.returns((S, (D[1][0][:2], D[1][1])), without_record, D, 'city', ('nice', 'gaul'))
        self.returns((N, (M[1][0], M[1][1], ((0,), (5,)))), without_record, M, 'rate', (1,))
        self.returns(EMPTY, without_record, (S, ((), (('ann', 'rome'),))), 'job', ('ann', 'rome'))

    def test_there_already_or_not_there(self):
        for database in (D, M, FORTY):
            for entry, rows in zip(*database):
                for row in rows:
                    self.returns(database, with_record, database, entry[0], row)
                    smaller = without_record(database, entry[0], row)
                    self.assertNotEqual(smaller, database)
                    self.returns(smaller, without_record, smaller, entry[0], row)
                    self.returns(database, with_record, smaller, entry[0], row)
        self.returns(D, without_record, D, 'city', ('ann', 'lyon'))
        self.returns(EMPTY, without_record, EMPTY, 'city', ('ann', 'lyon'))

    def test_forty_records(self):
        for name, record in (('free', (5,)), ('keyed', ('zz', 1)), ('keyed', ('aa', 9)), ('set', (99, 'ann'))):
            self.fails(TooMany(40), with_record, FORTY, name, record)
            self.returns(FORTY, without_record, FORTY, name, record)
        smaller = without_record(FORTY, 'set', (14, 'ann'))
        self.assertEqual(len(with_record(smaller, 'free', (5,))[1][0]), 6)

    def test_six_records_in_a_group(self):
        six = (T, (tuple((at,) for at in range(6)), tuple(('ann', at) for at in range(6)), ()))
        self.fails(TooMany(6), with_record, six, 'free', (6,))
        self.fails(TooMany(6), with_record, six, 'free', (-6,))
        self.fails(TooMany(6), with_record, six, 'keyed', ('ann', 6))
        self.returns((T, (six[1][0], six[1][1] + (('bob', 0),), ())), with_record, six, 'keyed', ('bob', 0))
        for at in range(6):
            self.returns(six, with_record, six, 'free', (at,))
            self.returns(six, with_record, six, 'keyed', ('ann', at))

    def test_forty_records_come_before_six(self):
        full = (T, (tuple((at,) for at in range(6)), numbered(34), ()))
        self.fails(TooMany(40), with_record, full, 'free', (6,))
        for at in range(6):
            self.returns(full, with_record, full, 'free', (at,))

    def test_invalid_records(self):
        for record in list(broken((0, 1, 'ann'))) + [(0, 1), (0, 1, 2), (0, 1, 'ann', 0), (0, 1, 'X')]:
            self.fails(InvalidRecord('why'), with_record, M, 'pay', record)
            self.fails(InvalidRecord('why'), without_record, M, 'pay', record)
        for record in ((True,), (), [0], None):
            self.fails(InvalidRecord('why'), with_record, M, 'rate', record)
            self.fails(InvalidRecord('why'), without_record, M, 'rate', record)

    def test_invalid_records_come_before_the_limits(self):
        self.fails(InvalidRecord('why'), with_record, FORTY, 'free', (True,))
        self.fails(InvalidRecord('why'), with_record, FORTY, 'keyed', ('aa',))

    def test_unknown_names_come_before_the_record(self):
        for name in ('jobs', [], {}, None, ('job',)):
            for record in (('ann', 'rome'), None, []):
                self.fails(UnknownName(name), with_record, D, name, record)
                self.fails(UnknownName(name), without_record, D, name, record)


if __name__ == '__main__':
    unittest.main()
