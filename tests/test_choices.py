"""Choices (3.1)."""

import unittest

from rightrecord.data.choices import (choice_at, choice_number, chosen_database, chosen_record, count_choices,
                                      is_choice, swapped, unlike_groups)
from rightrecord.errors import (InvalidChoice, InvalidDatabase, InvalidNumber, InvalidRecord, UnknownGroup,
                                UnknownName)
from tests import oracle
from tests.support import D, M, M_GROUPS, N, S, STRANGE, Case, broken

T = (('free', 0, ('number',)), ('keyed', 1, ('name', 'number')), ('set', 2, ('number', 'name')))
EMPTY = (S, ((), ()))
TWENTY = (T, ((), tuple((letter, at) for letter in 'abcdefghijklmnopqrst' for at in (0, 1)), ()))
MIXED = (T, (((0,), (1,), (2,), (3,)), tuple((letter, at) for letter in 'abcdef' for at in range(6)), ()))
SETS = (T, ((), (), tuple((at, 'ann') for at in range(40))))
NUMBERS = (None, True, False, '0', 'ann', (), (0,), [0], {}, {0: 0}, -1, -2, 10 ** 39, -(10 ** 39))
C = (('ann', 0), ('ann', 1), (0, 1, 'ann'), (1, 0, 'bob'), (0,))


class TestChoices(Case):

    def test_counts(self):
        for database, count in ((D, 4), (M, 6), (EMPTY, 1), (TWENTY, 2 ** 20), (MIXED, 4 * 6 ** 6), (SETS, 1)):
            self.returns(count, count_choices, database)

    def test_numbers(self):
        for database in (D, M, EMPTY, SETS):
            found = oracle.choices(database)
            self.assertEqual(found, sorted(found))
            self.returns(len(found), count_choices, database)
            for number, choice in enumerate(found):
                self.returns(choice, choice_at, database, number)
                self.returns(number, choice_number, database, choice)
                self.returns(True, is_choice, database, choice)

    def test_random_databases(self):
        for _, _, database in oracle.random_inputs(1, 100):
            found = oracle.choices(database)
            self.returns(len(found), count_choices, database)
            for number in range(0, len(found), max(1, len(found) // 7)):
                self.returns(found[number], choice_at, database, number)
                self.returns(number, choice_number, database, found[number])

    def test_the_empty_database(self):
        self.returns((), choice_at, EMPTY, 0)
        self.returns(0, choice_number, EMPTY, ())
        self.returns(True, is_choice, EMPTY, ())
        self.returns(EMPTY, chosen_database, EMPTY, ())
        self.returns((), unlike_groups, EMPTY, (), ())
        for value in ([], {}, None, ((),), (('ann', 'lyon'),)):
            self.returns(False, is_choice, EMPTY, value)
            self.fails(InvalidChoice('why'), choice_number, EMPTY, value)

    def test_many_choices(self):
        for database in (TWENTY, MIXED):
            count = count_choices(database)
            numbers = sorted({0, 1, 2, 5, 6, 7, count // 3, count // 2 - 1, count // 2, count - 2, count - 1}
                             | {at * 99991 % count for at in range(60)})
            before = None
            for number in numbers:
                choice = choice_at(database, number)
                self.assertTrue(before is None or before < choice)
                self.returns(number, choice_number, database, choice)
                self.returns(True, is_choice, database, choice)
                before = choice
            self.assertEqual(choice_at(database, 0), tuple(records[0] for _, records in oracle.groups(database)))
            self.assertEqual(before, tuple(records[-1] for _, records in oracle.groups(database)))
        self.returns(MIXED[1][0][3:] + tuple((letter, 5) for letter in 'abcdef'), choice_at, MIXED, 4 * 6 ** 6 - 1)
        self.returns(tuple((letter, 0) for letter in 'abcdefghijklmnopqrs') + (('t', 1),), choice_at, TWENTY, 1)
        self.returns((('a', 1),) + tuple((letter, 0) for letter in 'bcdefghijklmnopqrst'), choice_at, TWENTY, 2 ** 19)

    def test_invalid_numbers(self):
        for database in (D, M, EMPTY, TWENTY):
            count = count_choices(database)
            for number in NUMBERS + (count, count + 1):
                self.fails(InvalidNumber(number), choice_at, database, number)

    def test_no_choices(self):
        found = oracle.choices(D)
        others = [found[0][:-1], found[0] + found[0][-1:], found[0][::-1], list(found[0]), found[0][1:], (), found]
        others += [found[0][:3] + (('ann', 'rome'), ('bob', 'cork')), found[0][:3] + (('bob', 'cork'),) * 2]
        for value in list(broken(found[0])) + list(STRANGE) + others:
            self.returns(False, is_choice, D, value)
            self.fails(InvalidChoice('why'), choice_number, D, value)
            self.fails(InvalidChoice('why'), chosen_database, D, value)

    def test_truth_values_are_no_numbers(self):
        self.returns(True, is_choice, M, C)
        for value in broken(C):
            self.returns(False, is_choice, M, value)
            self.fails(InvalidChoice('why'), choice_number, M, value)
            self.fails(InvalidChoice('why'), chosen_database, M, value)
            self.fails(InvalidChoice('why'), chosen_record, M, value, 'rate', ())
            self.fails(InvalidChoice('why'), swapped, M, value, 'rate', (), (1,))
            self.fails(InvalidChoice('why'), unlike_groups, M, value, C)
            self.fails(InvalidChoice('why'), unlike_groups, M, C, value)

    def test_an_invalid_database_comes_first(self):
        error = InvalidDatabase('why')
        choice = choice_at(D, 0)
        group = ('job', ('ann',))
        invalid = [(S, (D[1][0][::-1], D[1][1])), (S, ()), (T, (tuple((at,) for at in range(7)), (), ()))]
        for database in list(broken(D)) + list(STRANGE) + invalid:
            self.fails(error, count_choices, database)
            self.fails(error, choice_at, database, 0)
            self.fails(error, choice_at, database, True)
            for value in (choice, None, []):
                self.fails(error, is_choice, database, value)
                self.fails(error, choice_number, database, value)
                self.fails(error, chosen_database, database, value)
                self.fails(error, chosen_record, database, value, *group)
                self.fails(error, chosen_record, database, value, [], {})
                self.fails(error, swapped, database, value, *group, ('ann', 'nice'))
                self.fails(error, swapped, database, value, None, None, None)
                self.fails(error, unlike_groups, database, value, choice)
                self.fails(error, unlike_groups, database, value, {})


class TestChosen(Case):

    def test_chosen_records_and_databases(self):
        for database in (D, M, SETS):
            for choice in oracle.choices(database):
                for (name, _), record in zip(oracle.groups(database), choice):
                    self.returns(record, chosen_record, database, choice, *name)
                rows = oracle.chosen_rows(database, choice)
                self.returns((database[0], tuple(tuple(rows[table[0]]) for table in database[0])),
                             chosen_database, database, choice)

    def test_a_chosen_database_has_one_choice(self):
        for number in (0, 77, 186623):
            choice = choice_at(MIXED, number)
            self.returns(1, count_choices, chosen_database(MIXED, choice))
            self.returns(choice, choice_at, chosen_database(MIXED, choice), 0)

    def test_swapped(self):
        for database in (D, M):
            for choice in oracle.choices(database):
                for at, (name, records) in enumerate(oracle.groups(database)):
                    for record in records:
                        expected = choice[:at] + (record,) + choice[at + 1:]
                        self.returns(expected, swapped, database, choice, *name, record)
                        unlike = (name,) if expected != choice else ()
                        self.returns(unlike, unlike_groups, database, choice, expected)

    def test_unlike_groups(self):
        for database in (D, M):
            names = [name for name, _ in oracle.groups(database)]
            for choice in oracle.choices(database):
                for other in oracle.choices(database):
                    unlike = tuple(name for name, one, two in zip(names, choice, other) if one != two)
                    self.returns(unlike, unlike_groups, database, choice, other)
        first, last = choice_at(TWENTY, 0), choice_at(TWENTY, 2 ** 20 - 1)
        self.returns(tuple(('keyed', (letter,)) for letter in 'abcdefghijklmnopqrst'), unlike_groups, TWENTY, first,
                     last)
        self.returns((), unlike_groups, TWENTY, last, last)

    def test_records_of_no_group(self):
        for record in ((1, 0, 'eve'), (0, 1, 'ann'), ('ann', 0), (True, 0, 'bob'), (1, False, 'bob'), [1, 0, 'bob'],
                       (1, 0), (), None, True, 'bob', {}, (1, 0, ['bob']), (1, {}, 'bob')):
            self.fails(InvalidRecord('why'), swapped, M, C, 'pay', (1,), record)
        for record in ((2,), (True,), (False,), [0], 0, (), ('ann', 0)):
            self.fails(InvalidRecord('why'), swapped, M, C, 'rate', (), record)
        for record in (('bob', 'lyon'), ('ann', 'rome'), ('lyon', 'gaul'), ['ann', 'nice'], ('ann',), ({}, [])):
            self.fails(InvalidRecord('why'), swapped, D, choice_at(D, 0), 'job', ('ann',), record)

    def test_unknown_groups(self):
        for table, key in (('pay', (True,)), ('pay', (2,)), ('pay', 1), ('pay', [1]), ('pay', ()), ('rate', (0,)),
                           ('rate', []), ('full', ('ann', True)), ('full', ('ann',)), ('full', ({}, 1)),
                           ('pay', None), ('rate', False)):
            self.fails(UnknownGroup((table, key)), chosen_record, M, C, table, key)
            self.fails(UnknownGroup((table, key)), swapped, M, C, table, key, (1, 0, 'bob'))
            self.fails(UnknownGroup((table, key)), swapped, M, C, table, key, None)

    def test_unknown_names(self):
        for name in ('pays', 'PAY', [], {}, None, True, ('pay',), 0):
            for key in ((1,), (), [], (True,)):
                self.fails(UnknownName(name), chosen_record, M, C, name, key)
                self.fails(UnknownName(name), swapped, M, C, name, key, (1, 0, 'bob'))
                self.fails(UnknownName(name), swapped, M, C, name, key, [])

    def test_invalid_choices_come_before_names(self):
        for value in (C[1:], list(C), None, ()):
            self.fails(InvalidChoice('why'), chosen_record, M, value, 'pays', [])
            self.fails(InvalidChoice('why'), swapped, M, value, [], {}, None)
            self.fails(InvalidChoice('why'), unlike_groups, M, value, value)

    def test_the_groups_of_the_samples(self):
        self.assertEqual(tuple(name for name, _ in oracle.groups(M)), M_GROUPS)
        self.assertEqual(M[0], N)


if __name__ == '__main__':
    unittest.main()
