"""Queries and answers (4.1, 4.2)."""

import unittest

from rightrecord.errors import InvalidAnswer, InvalidQuery, InvalidSchema
from rightrecord.query import queries
from rightrecord.query.queries import bound_variables, head_kinds, instantiate, is_answer, is_query, with_head
from tests import oracle
from tests.support import N, S, STRANGE, Case, broken

Q = (('P', 'C'), (('job', ('P', 'T')), ('city', ('T', 'C'))))
FIVE = tuple((name, 1, ('name', 'name')) for name in 'abcde')
WIDE = (('a', 1, ('name',) * 4), ('b', 1, ('number',) * 4))
# A query with numbers, and with a value in each place where a truth value could be taken for it.
R = (('X', 'P'), (('pay', ('X', 1, 'P')), ('full', ('P', 0)), ('rate', ('Y',))))


def chain(count):
    return tuple((name, (variable, 'Z')) for name, variable in zip('abcde', 'ABCDE'))[:count]


class TestIsQuery(Case):

    def test_constants(self):
        self.assertEqual(queries.MAX_ATOMS, 4)
        self.assertEqual(queries.MAX_HEAD, 4)

    def test_queries(self):
        for schema, value in ((S, Q), (S, ((), Q[1])), (S, (('T',), Q[1])), (N, R), (S, (('C', 'P', 'T'), Q[1])),
                              (S, ((), (('job', ('ann', 'rome')),))), (S, ((), (('job', ('P', 'P')),))),
                              (S, (('P',), (('job', ('P', 'P')),))), (N, ((), (('rate', (10 ** 9,)),))),
                              (S, ((), (('job', ('LONG', 'abcdefgh')),)))):
            self.returns(True, is_query, schema, value)

    def test_one_to_four_atoms(self):
        for count in range(6):
            self.returns(1 <= count <= 4, is_query, FIVE, ((), chain(count)))

    def test_no_table_twice(self):
        self.returns(False, is_query, S, ((), (('job', ('P', 'T')), ('job', ('P', 'T')))))
        self.returns(False, is_query, S, ((), (('job', ('P', 'T')), ('job', ('T', 'C')))))
        self.returns(False, is_query, S, ((), Q[1] + Q[1][:1]))

    def test_tables(self):
        for table in ('jobs', 'Job', '', None, 0, True, ['job'], ('job',), {}, {'job': 1}):
            self.returns(False, is_query, S, ((), ((table, ('P', 'T')),)))

    def test_one_term_for_each_column(self):
        for terms in (('P',), ('P', 'T', 'C'), (), ['P', 'T'], 'PT', None, {'P': 'T'}, ('P', ('T',)), ('P', ['T']),
                      ('P', None), ('P', {}), ('P', 'Tom'), ('P', 'ABCDE'), ('P', 'abcdefghi'), ('P', '')):
            self.returns(False, is_query, S, ((), (('job', terms),)))

    def test_forms_of_atoms(self):
        for atom in (('job', ('P', 'T'), ()), ('job',), (), ('job', 'P', 'T'), (('P', 'T'), 'job'), ['job', ('P', 'T')],
                     'job', None, {'job': ('P', 'T')}):
            self.returns(False, is_query, S, ((), (atom,)))
            self.returns(False, is_query, S, ((), Q[1][1:] + (atom,)))
        for atoms in (Q[1][0], list(Q[1]), None, {}, dict(Q[1])):
            self.returns(False, is_query, S, ((), atoms))

    def test_values_have_the_kind_of_their_column(self):
        for value in (0, 1, True, False, 10 ** 9):
            self.returns(False, is_query, S, ((), (('job', (value, 'T')),)))
        for value in ('ann', True, False, 10 ** 9 + 1, -(10 ** 9) - 1, '1'):
            self.returns(False, is_query, N, ((), (('rate', (value,)),)))
            self.returns(False, is_query, N, ((), (('full', ('P', value)),)))

    def test_variables_have_one_kind(self):
        self.returns(False, is_query, N, ((), (('full', ('P', 'P')),)))
        self.returns(False, is_query, N, ((), (('full', ('P', 'X')), ('rate', ('P',)))))
        self.returns(False, is_query, N, (('P',), (('rate', ('P',)), ('full', ('P', 'X')))))
        self.returns(True, is_query, N, ((), (('full', ('P', 'X')), ('rate', ('X',)))))
        self.returns(True, is_query, N, ((), (('pay', ('X', 'X', 'P')), ('full', ('P', 'X')))))

    def test_heads(self):
        atoms = (('a', ('A', 'B', 'C', 'D')), ('b', ('E', 'F', 'F', 'F')))
        for head in ((), ('A',), ('D', 'A'), ('E', 'D', 'C', 'B'), ('A', 'B', 'C', 'D'), ('F', 'E', 'A', 'D')):
            self.returns(True, is_query, WIDE, (head, atoms))
        for head in (('A', 'B', 'C', 'D', 'E'), ('A', 'A'), ('A', 'B', 'A'), ('G',), ('A', 'G'), ('a',), (1,), (True,),
                     ('A', None), (None,), (['A'],), ({},), ('',), ('ABCDE',), ['A'], 'A', None, {}, {'A': 1}):
            self.returns(False, is_query, WIDE, (head, atoms))
        self.returns(False, is_query, S, (('P',), (('job', ('ann', 'rome')),)))

    def test_any_value(self):
        for value in STRANGE:
            self.returns(False, is_query, S, value)
        for schema, query in ((S, Q), (N, R)):
            for value in list(broken(query)) + [query[::-1], query + ((),), query[:1], list(query)]:
                self.returns(False, is_query, schema, value)

    def test_a_query_for_another_schema(self):
        self.returns(False, is_query, N, Q)
        self.returns(False, is_query, S, R)

    def test_an_invalid_schema_comes_first(self):
        error = InvalidSchema('why')
        for schema in list(broken(S)) + list(STRANGE):
            for value in (Q, None, []):
                self.fails(error, is_query, schema, value)
                self.fails(error, head_kinds, schema, value)
                self.fails(error, bound_variables, schema, value)
                self.fails(error, is_answer, schema, value, ('ann', 'gaul'))
                self.fails(error, instantiate, schema, value, [])
                self.fails(error, with_head, schema, value, ['P'])

    def test_an_invalid_query_comes_next(self):
        error = InvalidQuery('why')
        for value in list(broken(Q)) + list(STRANGE) + [R, (('P', 'P'), Q[1]), ((), Q[1] + Q[1])]:
            self.fails(error, head_kinds, S, value)
            self.fails(error, bound_variables, S, value)
            for answer in (('ann', 'gaul'), (), [], None):
                self.fails(error, is_answer, S, value, answer)
                self.fails(error, instantiate, S, value, answer)
                self.fails(error, with_head, S, value, answer)


class TestAnswers(Case):

    def test_kinds_in_the_order_of_the_head(self):
        self.returns(('name', 'name'), head_kinds, S, Q)
        self.returns(('number', 'name'), head_kinds, N, R)
        self.returns(('name', 'number'), head_kinds, N, (('P', 'X'), R[1]))
        self.returns(('number', 'name', 'number'), head_kinds, N, (('Y', 'P', 'X'), R[1]))
        self.returns((), head_kinds, N, ((), R[1]))

    def test_bound_variables_ascend(self):
        self.returns(('T',), bound_variables, S, Q)
        self.returns(('Y',), bound_variables, N, R)
        self.returns(('C', 'P', 'T'), bound_variables, S, ((), Q[1]))
        self.returns((), bound_variables, S, (('T', 'C', 'P'), Q[1]))
        self.returns((), bound_variables, S, ((), (('job', ('ann', 'rome')),)))
        self.returns(('A', 'AB', 'B', 'BA'), bound_variables, WIDE, ((), (('a', ('B', 'AB', 'A', 'BA')),)))

    def test_is_answer(self):
        for value in (('ann', 'gaul'), ('a', 'abcdefgh'), ('ann', 'ann')):
            self.returns(True, is_answer, S, Q, value)
        for value in ((), ('ann',), ('ann', 'gaul', 'gaul'), ('ann', 7), ('ann', 'P'), ['ann', 'gaul'], 'ann', None,
                      ('ann', ['gaul']), ('ann', {}), ('ann', None), {'ann': 'gaul'}):
            self.returns(False, is_answer, S, Q, value)
        for value in ((1, 'ann'), (-(10 ** 9), 'ann')):
            self.returns(True, is_answer, N, R, value)
        for value in list(broken((1, 'ann'))) + [(True, 'ann'), ('ann', 1), (10 ** 9 + 1, 'ann')]:
            self.returns(False, is_answer, N, R, value)
        self.returns(True, is_answer, S, ((), Q[1]), ())
        for value in STRANGE:
            self.returns(value == () and isinstance(value, tuple), is_answer, S, ((), Q[1]), value)

    def test_instantiate(self):
        self.returns(((), (('pay', (7, 1, 'eve')), ('full', ('eve', 0)), ('rate', ('Y',)))), instantiate, N, R,
                     (7, 'eve'))
        self.returns(((), Q[1]), instantiate, S, ((), Q[1]), ())
        self.returns(((), (('job', ('a', 'a')),)), instantiate, S, (('P',), (('job', ('P', 'P')),)), ('a',))
        self.returns(((), (('job', ('b', 'a')),)), instantiate, S, (('T', 'P'), (('job', ('P', 'T')),)), ('a', 'b'))

    def test_an_instantiated_query_is_a_query(self):
        for schema, query, _ in oracle.random_inputs(2, 200):
            answer = tuple({'name': 'w', 'number': 2}[kind] for kind in head_kinds(schema, query))
            self.returns(True, is_answer, schema, query, answer)
            self.returns(True, is_query, schema, instantiate(schema, query, answer))
            self.returns(bound_variables(schema, query), bound_variables, schema, instantiate(schema, query, answer))
            self.returns(tuple(sorted(oracle.variables(query))), bound_variables, schema, query)

    def test_instantiate_with_no_answer(self):
        for value in list(broken((1, 'ann'))) + [(), (1,), ('ann', 1), (True, 'ann'), (1, 'ann', 1), [1, 'ann']]:
            self.fails(InvalidAnswer('why'), instantiate, N, R, value)
        self.fails(InvalidAnswer('why'), instantiate, S, ((), Q[1]), [])
        self.fails(InvalidAnswer('why'), instantiate, S, ((), Q[1]), None)

    def test_with_head(self):
        for head in ((), ('T',), ('P', 'C'), ('C', 'P'), ('T', 'C', 'P')):
            self.returns((head, Q[1]), with_head, S, Q, head)
        atoms = (('a', ('A', 'B', 'C', 'D')), ('b', ('E', 'F', 'F', 'F')))
        self.returns((('F', 'E', 'D', 'C'), atoms), with_head, WIDE, ((), atoms), ('F', 'E', 'D', 'C'))
        self.fails(InvalidQuery('why'), with_head, WIDE, ((), atoms), ('A', 'B', 'C', 'D', 'E'))
        for head in (('X',), ('P', 'P'), ('P', 'X'), ['P'], 'P', None, ('p',), ('ann',), (['P'],), ({},), (1,), {}):
            self.fails(InvalidQuery('why'), with_head, S, Q, head)


if __name__ == '__main__':
    unittest.main()
