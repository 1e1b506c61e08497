"""Bounds over all choices (11.1, 11.2)."""

import random

from rightrecord.data.choices import choice_at
from rightrecord.errors import InvalidDatabase, InvalidNumber, InvalidQuery, InvalidSchema, TooMany
from rightrecord.measure.bounds import (answer_range, count_range, is_pattern, maximum_range, minimum_range,
                                        sum_range)
from tests import oracle, rings
from tests.support import D, M, N, S, STRANGE, Case, broken

P = ((('pay', 1, ('name', 'number')),), ((('ann', 5), ('ann', 7), ('bob', 4), ('eve', 4), ('eve', 9)),))
Q = (('P', 'C'), (('job', ('P', 'T')), ('city', ('T', 'C'))))
EMPTY = (S, ((), ()))
NO_PAY = (P[0], ((),))
COLUMN_RANGES = {sum_range: sum, minimum_range: min, maximum_range: max}


def fitting(database, pattern, choice):
    """Return the chosen records of the pattern's table that fit it."""
    return [witness[0] for _, witness in oracle.matches(((), (pattern,)), oracle.chosen_rows(database, choice))]


class Ranges(Case):

    def check(self, values, function, *arguments):
        """The range has the least and the greatest of the values, a dict by choices, each with a choice of it."""
        found = self.stable(function, *arguments)
        if not values:
            self.assertIsNone(found)
            return
        self.assertEqual((type(found), len(found), [len(bound) for bound in found]), (tuple, 2, [2, 2]))
        (least, lowest), (greatest, highest) = found
        expected = (min(values.values()), max(values.values()))
        self.assertEqual((least, greatest), expected, (function.__name__, arguments))
        self.assertEqual((values[lowest], values[highest]), expected)
        self.assertTrue(type(least) is type(greatest) is int)


class TestPatterns(Case):

    def test_patterns(self):
        for pattern in (('job', ('P', 'T')), ('job', ('P', 'P')), ('job', ('ann', 'T')), ('city', ('cork', 'eire'))):
            self.returns(True, is_pattern, S, pattern)
        for pattern in (('rate', ('X',)), ('rate', (-5,)), ('pay', ('X', 'X', 'P')), ('full', ('ann', 0))):
            self.returns(True, is_pattern, N, pattern)

    def test_any_value(self):
        values = [('job', ('P',)), ('job', ('P', 'T', 'T')), ('jobs', ('P', 'T')), ('job', ('P', 1)), ('job', ()),
                  (('job', ('P', 'T')),), ((), (('job', ('P', 'T')),)), ('job', ['P', 'T']), ['job', ('P', 'T')],
                  ('job', ('P', 'T'), ()), ('P', ('P', 'T')), ('job', (True, 'T')), ('job', 'PT'), 'job', ([], ())]
        for value in list(broken(('job', ('P', 'T')))) + list(STRANGE) + values:
            self.returns(False, is_pattern, S, value)
            self.fails(InvalidQuery('why'), count_range, D, value)
        for value in list(broken(('pay', ('X', 1, 'P')))) + [('pay', ('X', 'Y', 'X')), ('pay', (0, 1, 2)),
                                                             ('rate', (True,)), ('full', ('ann', False)),
                                                             ('rate', (10 ** 9 + 1,))]:
            self.returns(False, is_pattern, N, value)
            for function in (sum_range, minimum_range, maximum_range):
                self.fails(InvalidQuery('why'), function, M, value, 0)
                self.fails(InvalidQuery('why'), function, M, value, [])


class TestRecords(Ranges):

    def check_all(self, database, pattern, columns):
        records = {choice: fitting(database, pattern, choice) for choice in oracle.choices(database)}
        self.check({choice: len(records[choice]) for choice in records}, count_range, database, pattern)
        for column in columns:
            values = {choice: [record[column] for record in records[choice]] for choice in records}
            self.check({choice: sum(values[choice]) for choice in values}, sum_range, database, pattern, column)
            for function in (minimum_range, maximum_range):
                extreme = COLUMN_RANGES[function]
                self.check({choice: extreme(values[choice]) for choice in values if values[choice]}, function,
                           database, pattern, column)

    def test_samples(self):
        for pattern in (('X', 'Y'), ('X', 4), ('X', 9), ('ann', 'Y'), ('tom', 'Y'), ('eve', 4), ('X', 7), ('X', 8)):
            self.check_all(P, ('pay', pattern), [1])
        for function in (minimum_range, maximum_range):
            self.returns(None, function, P, ('pay', ('tom', 'Y')), 1)
            self.returns(None, function, NO_PAY, ('pay', ('X', 'Y')), 1)
        for function, arguments in ((count_range, ()), (sum_range, (1,))):
            self.returns(((0, ()), (0, ())), function, NO_PAY, ('pay', ('X', 'Y')), *arguments)
        self.returns(((0, ()), (0, ())), count_range, EMPTY, ('job', ('P', 'T')))
        for pattern in (('job', ('P', 'T')), ('job', ('P', 'lyon')), ('job', ('P', 'P')), ('city', ('T', 'gaul'))):
            self.check_all(D, pattern, [])

    def test_tables_with_and_without_a_key(self):
        for terms in (('X',), (0,), (5,), (7,)):
            self.check_all(M, ('rate', terms), [0])
        for terms in (('X', 'Y', 'P'), ('X', 'X', 'P'), ('X', 'Y', 'ann'), (1, 'Y', 'P'), ('X', 0, 'P'), ('X', 1, 'ann')):
            self.check_all(M, ('pay', terms), [0, 1])
        for terms in (('P', 'X'), ('ann', 'X'), ('P', 0), ('bob', 'X')):
            self.check_all(M, ('full', terms), [1])

    def test_negative_numbers(self):
        """Where some choice has no fitting record, a negative sum is not the greatest one."""
        schema = (('pay', 1, ('name', 'number', 'name')),)
        rows = (('ann', -5, 'x'), ('ann', -3, 'y'), ('bob', -10 ** 9, 'x'), ('bob', 10 ** 9, 'x'), ('eve', -4, 'x'),
                ('eve', 0, 'y'), ('tom', -1, 'y'))
        for count in range(1, len(rows) + 1):
            database = (schema, (rows[:count],))
            for terms in (('P', 'X', 'x'), ('P', 'X', 'y'), ('P', 'X', 'Y'), ('P', -5, 'Y'), ('P', 'X', 'z')):
                self.check_all(database, ('pay', terms), [1])

    def test_against_all_choices(self):
        pick = random.Random(91)
        seen = set()
        for _ in range(500):
            schema = oracle.random_schema(pick)
            rows = [sorted({tuple(pick.choice({'name': 'uv', 'number': (-2, -1, 0, 3)}[kind]) for kind in kinds)
                            for _ in range(5)}) for _, _, kinds in schema]
            database = (schema, tuple(map(tuple, rows)))
            if len(oracle.choices(database)) > 64:
                continue
            name, _, kinds = pick.choice(schema)
            spare = {'name': ('A', 'B', 'B', 'u'), 'number': ('X', 'Y', 'Y', -2, 0)}
            pattern = (name, tuple(pick.choice(spare[kind]) for kind in kinds))
            columns = [at for at, kind in enumerate(kinds) if kind == 'number']
            self.check_all(database, pattern, columns)
            for column in columns:
                found = minimum_range(database, pattern, column)
                seen.add(None if found is None else found[0][0] == found[1][0])
        self.assertEqual(seen, {None, True, False})

    def test_any_number_of_conflicting_groups(self):
        letters = 'abcdefghijklmnopqrst'
        database = ((('keyed', 1, ('name', 'number')),),
                    (tuple((letter, 10 * at + more) for at, letter in enumerate(letters) for more in (0, 1)),))
        lowest, highest = choice_at(database, 0), choice_at(database, 2 ** 20 - 1)
        self.returns(((1900, lowest), (1920, highest)), sum_range, database, ('keyed', ('K', 'X')), 1)
        least, greatest = count_range(database, ('keyed', ('K', 'X')))
        self.assertEqual((least[0], greatest[0]), (20, 20))
        for function, values in ((minimum_range, (0, 1)), (maximum_range, (190, 191))):
            least, greatest = function(database, ('keyed', ('K', 'X')), 1)
            self.assertEqual((least[0], greatest[0]), values)
            for value, choice in (least, greatest):
                self.assertEqual(COLUMN_RANGES[function](record[1] for record in choice), value)
        least, greatest = count_range(database, ('keyed', ('K', 31)))
        self.assertEqual((least[0], greatest[0]), (0, 1))

    def test_groups_of_six(self):
        rows = tuple((letter, number) for letter in 'ab' for number in (-3, -1, 0, 2, 5, 9))
        self.check_all((P[0], (rows,)), ('pay', ('X', 'Y')), [1])
        self.check_all((P[0], (rows,)), ('pay', ('X', 5)), [1])


class TestAnswers(Ranges):

    def check_answers(self, database, query):
        held = oracle.answers_by_choice(query, database)
        self.check({choice: len(held[choice]) for choice in held}, answer_range, database, query)

    def test_samples(self):
        for query in (Q, ((), Q[1]), (('C',), Q[1]), (('T',), Q[1]), (('P',), (('job', ('P', 'lyon')),)),
                      (('T', 'P'), Q[1]), (('T',), Q[1][1:])):
            self.check_answers(D, query)
        self.returns(((0, ()), (0, ())), answer_range, EMPTY, Q)
        self.returns(((0, ()), (0, ())), answer_range, EMPTY, ((), Q[1]))
        least, greatest = answer_range(D, Q)
        self.assertEqual((least[0], greatest[0]), (2, 2))

    def test_against_all_choices(self):
        pick = random.Random(95)
        inputs = [each[1:] for each in oracle.random_inputs(92, 400) + oracle.cyclic_inputs(93, 400)]
        schema = (('a', 1, ('number', 'number')), ('b', 1, ('number', 'number')))
        atoms = (('a', ('X', 'Y')), ('b', ('Y', 'Z')))
        for _ in range(120):
            rows = [tuple(sorted({(pick.randrange(4), pick.randrange(4)) for _ in range(6)})) for _ in range(2)]
            inputs.append(((tuple(pick.sample('XYZ', pick.randint(1, 3))), atoms), (schema, tuple(rows))))
        wide = 0
        for query, database in inputs:
            if len(oracle.choices(database)) <= 64:
                self.check_answers(database, query)
                least, greatest = answer_range(database, query)
                wide += greatest[0] - least[0] > 1
        self.assertGreater(wide, 15)

    def test_independent_blocks(self):
        """The bounds of the blocks add up: each is attained on its own."""
        both = rings.ring_database(rings.ring('a', 2), rings.ring('b', 2), rings.path('c', 2))
        for query in (rings.CYCLIC, rings.ACYCLIC):
            self.check_answers(both, query)
        self.assertEqual([bound[0] for bound in answer_range(both, rings.CYCLIC)], [1, 3])

    def test_exactly_as_many_choices_as_allowed(self):
        self.assertEqual([bound[0] for bound in answer_range(rings.EXACT, rings.CYCLIC)], [0, 1])
        self.assertEqual([bound[0] for bound in answer_range(rings.EXACT_PATH, rings.CYCLIC)], [1, 1])
        # All groups that the witnesses of an answer use belong together, also where no witness links two of them.
        rows = tuple((letter, number) for letter in 'abcdefghijklm' for number in (0, 1))
        for count, head in ((12, ()), (12, ('X',)), (13, ('K',)), (13, ('K', 'X'))):
            database = ((('keyed', 1, ('name', 'number')),), (rows[:2 * count],))
            bounds = answer_range(database, (head, (('keyed', ('K', 'X')),)))
            expected = {(): [1, 1], ('X',): [1, 2], ('K',): [13, 13], ('K', 'X'): [13, 13]}[head]
            self.assertEqual([bound[0] for bound in bounds], expected)

    def test_too_many(self):
        rows = tuple((letter, number) for letter in 'abcdefghijklm' for number in (0, 1))
        database = ((('keyed', 1, ('name', 'number')),), (rows,))
        for head in ((), ('X',)):
            self.fails(TooMany(4096), answer_range, database, (head, (('keyed', ('K', 'X')),)))
        three = (database[0], (tuple(sorted(rows[:24] + (('a', 2),))),))
        self.fails(TooMany(4096), answer_range, three, ((), (('keyed', ('K', 'X')),)))
        # The answer with a witness without conflicts counts in every choice; its groups are linked all the same.
        self.fails(TooMany(4096), answer_range, (database[0], (rows + (('n', 0),),)), ((), (('keyed', ('K', 'X')),)))
        for query in (rings.CYCLIC, rings.ACYCLIC):
            for database in (rings.LARGER, rings.LARGE, rings.LARGE_PATH, rings.ONE_LARGE, rings.ONE_SURE):
                self.fails(TooMany(4096), answer_range, database, query)

    def test_blocks_against_the_definition(self):
        """TooMany exactly if a block is too large: the blocks of drawn databases, by force."""
        pick = random.Random(94)
        counts = {True: 0, False: 0}
        schema = (('a', 1, ('number', 'number')), ('b', 1, ('number', 'number')))
        for _ in range(150):
            rows = [tuple(sorted({(pick.randrange(pick.choice((2, 9))), pick.randrange(5)) for _ in range(20)}))
                    for _ in range(2)]
            database = (schema, tuple(rows))
            records = dict(oracle.groups(database))
            if max(map(len, records.values())) > 6:
                continue
            query = (pick.choice(((), ('X',), ('Y',))), (('a', ('X', 'Y')), ('b', ('Y', 'Z'))))
            large = False
            for names in oracle.blocks(database, query):
                product = 1
                for name in names:
                    product *= len(records[name])
                large = large or product > 4096
            counts[large] += 1
            if large:
                self.fails(TooMany(4096), answer_range, database, query)
            else:
                self.assertEqual(len(self.stable(answer_range, database, query)), 2)
        self.assertGreater(min(counts.values()), 10)


class TestErrors(Case):

    def test_an_invalid_database_or_schema_comes_first(self):
        for database in list(broken(P)) + list(STRANGE):
            for pattern in (('pay', ('X', 'Y')), None):
                self.fails(InvalidDatabase('why'), count_range, database, pattern)
                for function in COLUMN_RANGES:
                    self.fails(InvalidDatabase('why'), function, database, pattern, 1)
                    self.fails(InvalidDatabase('why'), function, database, pattern, [])
            self.fails(InvalidDatabase('why'), answer_range, database, Q)
            self.fails(InvalidDatabase('why'), answer_range, database, [])
        for schema in list(broken(S)) + list(STRANGE):
            self.fails(InvalidSchema('why'), is_pattern, schema, ('job', ('P', 'T')))
            self.fails(InvalidSchema('why'), is_pattern, schema, None)

    def test_an_invalid_query_comes_next(self):
        for query in list(broken(Q)) + list(STRANGE):
            self.fails(InvalidQuery('why'), answer_range, D, query)
        for function in COLUMN_RANGES:
            self.fails(InvalidQuery('why'), function, P, ('pay', ('X',)), 7)

    def test_invalid_columns(self):
        for function in COLUMN_RANGES:
            for column in (0, 2, -1, 10 ** 39, True, False, None, '1', 'Y', 'number', (), (1,), [1], {}, [[]], {1: 1}):
                self.fails(InvalidNumber(column), function, P, ('pay', ('X', 'Y')), column)
            for column in (2, 3, False, True):
                self.fails(InvalidNumber(column), function, M, ('pay', ('X', 'Y', 'P')), column)
            # Also where nothing could fit.
            self.fails(InvalidNumber(0), function, NO_PAY, ('pay', ('tom', 'Y')), 0)
            for column in (0, 1):
                self.fails(InvalidNumber(column), function, D, ('job', ('P', 'T')), column)
