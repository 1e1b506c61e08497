"""Components of answers (9.1)."""

from rightrecord.certain.components import MAX_CHOICES, components
from rightrecord.errors import InvalidAnswer, InvalidDatabase, InvalidQuery
from tests import oracle, rings
from tests.support import D, M, S, STRANGE, Case, broken

Q = (('P', 'C'), (('job', ('P', 'T')), ('city', ('T', 'C'))))
ANN, BOB = ('job', ('ann',)), ('job', ('bob',))
EMPTY = (S, ((), ()))


class TestComponents(Case):

    def test_samples(self):
        self.assertEqual(MAX_CHOICES, 4096)
        self.returns(((BOB,),), components, D, Q, ('bob', 'gaul'))
        self.returns(((ANN,),), components, D, Q, ('ann', 'gaul'))
        self.returns(((ANN,), (BOB,)), components, D, ((), Q[1]), ())
        self.returns(((ANN,), (BOB,)), components, D, (('C',), Q[1]), ('gaul',))
        self.returns(((BOB,),), components, D, (('C',), Q[1]), ('eire',))

    def test_no_component(self):
        for answer in (('eve', 'gaul'), ('ann', 'eire')):
            self.returns((), components, D, Q, answer)
        self.returns((), components, D, (('T',), Q[1][1:]), ('lyon',))
        self.returns((), components, EMPTY, Q, ('ann', 'gaul'))
        self.returns((), components, EMPTY, ((), Q[1]), ())

    def test_links(self):
        lyon = ('city', ('lyon',))
        database = (S, (tuple(sorted(D[1][0] + (('lyon', 'eire'),))), D[1][1]))
        self.returns(((lyon, ANN, BOB),), components, database, ((), Q[1]), ())
        self.returns(((lyon, ANN),), components, database, Q, ('ann', 'gaul'))
        # The only witness of the answer needs both.
        self.returns(((lyon, ANN),), components, database, Q, ('ann', 'eire'))
        self.returns(((lyon, BOB),), components, database, Q, ('bob', 'gaul'))
        # Alone in the query, each group is a component of its own.
        self.returns(((ANN,), (BOB,)), components, database, ((), Q[1][:1]), ())
        self.returns((((lyon,),)), components, database, ((), Q[1][1:]), ())

    def test_numbers_and_tables_without_a_key(self):
        query = ((), (('rate', ('X',)), ('pay', ('X', 'Y', 'P'))))
        self.returns(((('pay', (1,)), ('rate', ())),), components, M, query, ())
        self.returns(((('rate', ()),),), components, M, (('X',), query[1]), (0,))

    def test_rings(self):
        for database, sizes in ((rings.EXACT, [12]), (rings.LARGER, [12]), (rings.LARGE, [14]),
                                (rings.ONE_LARGE, [14]), (rings.ONE_SURE, [14]), (rings.EXACT_PATH, [12])):
            for query in (rings.CYCLIC, rings.ACYCLIC):
                found = self.stable(components, database, query, ('a',))
                self.assertEqual([len(names) for names in found], sizes)
                self.assertEqual(found, oracle.components(database, query, ('a',)))
        self.returns(((('left', ('b', 'x')),),), components, rings.ONE_LARGE, rings.CYCLIC, ('b',))

    def test_against_the_definition(self):
        sizes = set()
        for schema, query, database in oracle.random_inputs(61, 400) + oracle.cyclic_inputs(62, 300):
            for answer in oracle.domains(schema, query)[:6]:
                expected = oracle.components(database, query, answer)
                self.returns(expected, components, database, query, answer)
                sizes.add(tuple(map(len, expected)))
        self.assertGreaterEqual(sizes, {(), (1,), (1, 1), (2,), (3,)})


class TestErrors(Case):

    def test_the_order_of_the_errors(self):
        for database in list(broken(D)) + list(STRANGE):
            self.fails(InvalidDatabase('why'), components, database, Q, ('ann', 'gaul'))
            self.fails(InvalidDatabase('why'), components, database, None, [])
        for query in list(broken(Q)) + list(STRANGE):
            self.fails(InvalidQuery('why'), components, D, query, ('ann', 'gaul'))
            self.fails(InvalidQuery('why'), components, D, query, {})
        for answer in list(broken(('ann', 'gaul'))) + [(), ('ann',), ('ann', 1), ['ann', 'gaul']]:
            self.fails(InvalidAnswer('why'), components, D, Q, answer)
        for answer in ((True,), (False,), ('ann',), [1]):
            self.fails(InvalidAnswer('why'), components, M, (('X',), (('rate', ('X',)),)), answer)
