"""Matches, witnesses and answers (4.2, 4.3, 4.4, 5.4)."""

import itertools
import unittest

from rightrecord.attack.closures import unattacked_variables
from rightrecord.data.choices import choice_at, chosen_record
from rightrecord.errors import (InvalidAnswer, InvalidChoice, InvalidDatabase, InvalidQuery, UnknownGroup,
                                UnknownName)
from rightrecord.query.matching import (answers_in, answers_through, holds_in, is_witness, possible_answers,
                                        witnesses)
from rightrecord.query.queries import instantiate, with_head
from tests import oracle
from tests.support import D, M, N, S, STRANGE, Case, broken

Q = (('P', 'C'), (('job', ('P', 'T')), ('city', ('T', 'C'))))
R = (('X', 'P'), (('pay', ('X', 1, 'P')), ('full', ('P', 0)), ('rate', ('Y',))))
EMPTY = (S, ((), ()))
C = (('ann', 0), ('ann', 1), (0, 1, 'ann'), (1, 0, 'bob'), (0,))
INPUTS = [each for each in oracle.random_inputs(3, 250) if len(oracle.choices(each[2])) <= 16]


def spread(query):
    """Return some answers, possible and impossible ones, for the values of the random databases."""
    kinds = {'A': 'uvw', 'B': 'uvw', 'C': 'uvw', 'X': (0, 1, 2), 'Y': (0, 1, 2)}
    return list(itertools.product(*[kinds[variable] for variable in query[0]]))


class TestPossible(Case):

    def test_possible_answers(self):
        self.returns((('ann', 'gaul'), ('bob', 'eire'), ('bob', 'gaul')), possible_answers, D, Q)
        self.returns((('eire', 'bob'), ('gaul', 'ann'), ('gaul', 'bob')), possible_answers, D, (('C', 'P'), Q[1]))
        self.returns(((),), possible_answers, D, ((), Q[1]))
        self.returns((), possible_answers, EMPTY, Q)
        self.returns((), possible_answers, EMPTY, ((), Q[1]))
        self.returns(((0, 'ann'), (1, 'ann')), possible_answers, M, R)
        self.returns((), possible_answers, D, ((), (('job', ('P', 'P')),)))
        self.returns((('ann',),), possible_answers, D, (('P',), (('job', ('P', 'nice')),)))
        self.returns(((),), possible_answers, D, ((), (('job', ('ann', 'nice')),)))
        self.returns((), possible_answers, D, ((), (('job', ('ann', 'cork')),)))

    def test_answers_ascend_as_numbers(self):
        database = (N, ((), (), ((-10,), (-9,), (2,), (10,))))
        self.returns(((-10,), (-9,), (2,), (10,)), possible_answers, database, (('X',), (('rate', ('X',)),)))

    def test_a_variable_twice_in_an_atom(self):
        database = (S, ((), (('ann', 'ann'), ('ann', 'bob'), ('bob', 'ann'), ('bob', 'bob'), ('eve', 'ann'))))
        self.returns((('ann',), ('bob',)), possible_answers, database, (('P',), (('job', ('P', 'P')),)))
        self.returns(((('ann', 'ann'),), (('bob', 'bob'),)), witnesses, database, ((), (('job', ('P', 'P')),)), ())

    def test_witnesses(self):
        self.returns(((('ann', 'lyon'), ('lyon', 'gaul')), (('ann', 'nice'), ('nice', 'gaul'))), witnesses, D, Q,
                     ('ann', 'gaul'))
        self.returns((), witnesses, D, Q, ('ann', 'eire'))
        self.returns((), witnesses, EMPTY, Q, ('ann', 'eire'))
        self.returns(tuple(((1, 1, 'ann'), ('ann', 0), (rate,)) for rate in (0, 1, 5)), witnesses, M, R, (1, 'ann'))

    def test_against_the_definition(self):
        for _, query, database in INPUTS:
            found = oracle.matches(query, oracle.all_rows(database))
            self.returns(oracle.answers(found), possible_answers, database, query)
            for answer in spread(query):
                expected = tuple(sorted(witness for other, witness in found if other == answer))
                self.returns(expected, witnesses, database, query, answer)

    def test_is_witness(self):
        for _, query, database in INPUTS[:80]:
            rows = oracle.all_rows(database)
            found = oracle.matches(query, rows)
            for answer in spread(query)[:4]:
                for value in itertools.product(*[rows[table] for table, _ in query[1]]):
                    self.returns((answer, value) in found, is_witness, database, query, answer, value)

    def test_no_witness(self):
        witness = (('ann', 'lyon'), ('lyon', 'gaul'))
        self.returns(True, is_witness, D, Q, ('ann', 'gaul'), witness)
        for value in list(broken(witness)) + list(STRANGE) + [witness[::-1], witness[:1], witness + witness[:1]]:
            self.returns(False, is_witness, D, Q, ('ann', 'gaul'), value)
        for value in (witness, (('bob', 'lyon'), ('nice', 'gaul')), (('ann', 'rome'), ('rome', 'gaul'))):
            self.returns(False, is_witness, D, Q, ('bob', 'gaul'), value)
        witness = ((1, 1, 'ann'), ('ann', 0), (0,))
        self.returns(True, is_witness, M, R, (1, 'ann'), witness)
        for value in broken(witness):
            self.returns(False, is_witness, M, R, (1, 'ann'), value)
        self.returns(False, is_witness, M, R, (0, 'ann'), witness)


class TestChoices(Case):

    def test_against_the_definition(self):
        for _, query, database in INPUTS:
            together = set()
            for choice in oracle.choices(database):
                found = oracle.matches(query, oracle.chosen_rows(database, choice))
                together |= set(oracle.answers(found))
                self.returns(oracle.answers(found), answers_in, database, query, choice)
                for answer in spread(query)[:5]:
                    self.returns(answer in oracle.answers(found), holds_in, database, query, answer, choice)
            # An answer is possible exactly if it holds in some choice.
            self.returns(tuple(sorted(together)), possible_answers, database, query)

    def test_answers_through(self):
        for _, query, database in INPUTS[:120]:
            for choice in oracle.choices(database)[:6]:
                found = oracle.matches(query, oracle.chosen_rows(database, choice))
                for (name, _), record in zip(oracle.groups(database), choice):
                    tables = [table for table, _ in query[1]]
                    through = [(answer, witness) for answer, witness in found
                               if (name[0], record) in zip(tables, witness)]
                    self.returns(oracle.answers(through), answers_through, database, query, choice, *name)

    def test_answers_through_samples(self):
        choice = choice_at(D, 0)
        self.returns((('ann', 'gaul'),), answers_through, D, Q, choice, 'city', ('lyon',))
        self.returns((), answers_through, D, (('T',), Q[1][1:]), choice, 'job', ('ann',))
        self.returns(((),), answers_through, D, ((), Q[1]), choice, 'job', ('bob',))

    def test_a_witness_of_chosen_records(self):
        for _, query, database in INPUTS[:100]:
            names = [name for name, _ in oracle.groups(database)]
            sizes = {table[0]: table[1] for table in database[0]}
            for choice in oracle.choices(database)[:6]:
                taken = dict(zip(names, choice))
                for answer in spread(query)[:5]:
                    chosen = any(all(taken[(table, record[:sizes[table]])] == record
                                     for (table, _), record in zip(query[1], witness))
                                 for witness in witnesses(database, query, answer))
                    self.returns(chosen, holds_in, database, query, answer, choice)

    def test_instantiated_queries(self):
        for schema, query, database in INPUTS[:120]:
            for answer in spread(query)[:5]:
                closed = instantiate(schema, query, answer)
                self.returns(witnesses(database, query, answer), witnesses, database, closed, ())
                possible = answer in possible_answers(database, query)
                self.returns(((),) if possible else (), possible_answers, database, closed)
                for choice in oracle.choices(database)[:4]:
                    holds = holds_in(database, query, answer, choice)
                    self.returns(holds, holds_in, database, closed, (), choice)
                    self.returns(((),) if holds else (), answers_in, database, closed, choice)

    def test_another_order_of_the_head(self):
        for schema, query, database in INPUTS[:120]:
            turned = with_head(schema, query, query[0][::-1])
            expected = tuple(sorted(answer[::-1] for answer in possible_answers(database, query)))
            self.returns(expected, possible_answers, database, turned)
            for choice in oracle.choices(database)[:4]:
                expected = tuple(sorted(answer[::-1] for answer in answers_in(database, query, choice)))
                self.returns(expected, answers_in, database, turned, choice)

    def test_the_empty_database(self):
        for query in (Q, ((), Q[1]), ((), (('job', ('ann', 'rome')),))):
            self.returns((), answers_in, EMPTY, query, ())
        self.returns(False, holds_in, EMPTY, Q, ('ann', 'gaul'), ())
        self.returns(False, holds_in, EMPTY, ((), Q[1]), (), ())
        self.fails(UnknownGroup(('job', ('ann',))), answers_through, EMPTY, Q, (), 'job', ('ann',))

    def test_forty_records(self):
        schema = (('keyed', 1, ('name', 'number')), ('rate', 0, ('number',)))
        rows = tuple((letter, at) for letter in 'abcdefghijklmnopqrs' for at in (0, 1))
        database = (schema, (rows, ((0,), (1,))))
        query = (('K',), (('keyed', ('K', 'X')), ('rate', ('X',))))
        letters = tuple((letter,) for letter in 'abcdefghijklmnopqrs')
        self.returns(letters, possible_answers, database, query)
        self.returns(letters, answers_in, database, query, choice_at(database, 0))
        self.returns(letters[:-1], answers_in, database, query, choice_at(database, 2))
        self.returns((), answers_in, database, query, choice_at(database, 1))
        self.returns(letters, answers_in, database, query, choice_at(database, 2 ** 20 - 1))
        self.returns(letters[3:4], answers_through, database, query, choice_at(database, 0), 'keyed', ('d',))
        self.returns(letters, answers_through, database, query, choice_at(database, 0), 'rate', ())

    def test_swapping_one_record(self):
        """5.4: through one group, unattacked variables have one set of values, or none."""
        both = 0
        for schema, (_, atoms), database in oracle.random_inputs(4, 400):
            if len(oracle.choices(database)) > 16:
                continue
            query = ((), atoms)
            free = unattacked_variables(schema, query)[:4]
            for head in {free, free[:1], free[1:][::-1]}:
                headed = with_head(schema, query, head)
                for one, other in itertools.combinations(oracle.choices(database), 2):
                    unlike = [name for (name, _), a, b in zip(oracle.groups(database), one, other) if a != b]
                    if len(unlike) == 1:
                        first = answers_through(database, headed, one, *unlike[0])
                        second = answers_through(database, headed, other, *unlike[0])
                        both += first != () and second != ()
                        self.assertTrue(first == second or first == () or second == (), (database, headed, one, other))
        self.assertGreater(both, 100)


class TestErrors(Case):

    def test_an_invalid_database_comes_first(self):
        error = InvalidDatabase('why')
        choice = choice_at(D, 0)
        for database in list(broken(D)) + list(STRANGE):
            for query in (Q, None):
                self.fails(error, possible_answers, database, query)
                self.fails(error, witnesses, database, query, ('ann', 'gaul'))
                self.fails(error, is_witness, database, query, [], {})
                self.fails(error, answers_in, database, query, choice)
                self.fails(error, holds_in, database, query, None, choice)
                self.fails(error, answers_through, database, query, choice, 'job', ('ann',))
                self.fails(error, answers_through, database, query, None, {}, [])

    def test_an_invalid_query_comes_next(self):
        error = InvalidQuery('why')
        choice = choice_at(D, 0)
        for query in list(broken(Q)) + list(STRANGE) + [R, (('P', 'P'), Q[1])]:
            self.fails(error, possible_answers, D, query)
            self.fails(error, witnesses, D, query, [])
            self.fails(error, is_witness, D, query, ('ann', 'gaul'), {})
            self.fails(error, answers_in, D, query, None)
            self.fails(error, holds_in, D, query, None, None)
            self.fails(error, holds_in, D, query, ('ann', 'gaul'), choice)
            self.fails(error, answers_through, D, query, choice, 'job', ('ann',))
            self.fails(error, answers_through, D, query, [], {}, [])

    def test_invalid_answers(self):
        error = InvalidAnswer('why')
        for answer in list(broken((1, 'ann'))) + [(True, 'ann'), (), (1,), ('ann', 1), [1, 'ann'], (1, 'ann', 1)]:
            self.fails(error, witnesses, M, R, answer)
            self.fails(error, is_witness, M, R, answer, ())
            self.fails(error, holds_in, M, R, answer, C)
            self.fails(error, holds_in, M, R, answer, None)

    def test_invalid_choices(self):
        error = InvalidChoice('why')
        for choice in list(broken(C)) + list(STRANGE) + [C[::-1], C[1:], C + C[-1:], C[:-1] + ((7,),)]:
            self.fails(error, answers_in, M, R, choice)
            self.fails(error, holds_in, M, R, (1, 'ann'), choice)
            self.fails(error, answers_through, M, R, choice, 'rate', ())
            self.fails(error, answers_through, M, R, choice, [], {})

    def test_unknown_names_and_groups(self):
        for name in ('rates', '', None, True, [], {}, ('rate',), 1):
            for key in ((), [], (1,)):
                self.fails(UnknownName(name), answers_through, M, R, C, name, key)
        for table, key in (('rate', (0,)), ('rate', []), ('pay', (True,)), ('pay', (2,)), ('pay', [1]), ('pay', 1),
                           ('full', ('ann', False)), ('full', ('ann',)), ('full', {}), ('full', (['ann'], 0))):
            self.fails(UnknownGroup((table, key)), answers_through, M, R, C, table, key)
        # The group is asked for also if no atom has its table.
        self.fails(UnknownGroup(('job', ('eve',))), answers_through, D, (('T',), Q[1][1:]), choice_at(D, 0), 'job',
                   ('eve',))
        self.assertEqual(chosen_record(M, C, 'rate', ()), (0,))


if __name__ == '__main__':
    unittest.main()
