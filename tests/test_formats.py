"""Text forms (18.1)."""

import random

from rightrecord.errors import (InvalidPolicy, InvalidQuery, InvalidRecord, InvalidSchema, InvalidSettlement,
                                ParseError, UnknownName)
from rightrecord.text.formats import (format_policy, format_query, format_record, format_schema, format_settlement,
                                      parse_policy, parse_query, parse_record, parse_schema, parse_settlement)
from tests import oracle, text_oracle
from tests.claim_oracle import drawn_policy
from tests.desk_oracle import Drawer
from tests.support import N, S, STRANGE, Case, broken

Q = (('P', 'C'), (('job', ('P', 'T')), ('city', ('T', 'C'))))
BOB = ('job', ('bob',), (('bob', 'cork'), ('bob', 'lyon')))
ONE = (('a', 0, ('number',)),)
THREE = ('chain', (('chain', (('all',), ('ranks', ('tom', 'eve')))), ('votes',), ('trusted', ('a', 'abcdefgh'))))
NOT_STRINGS = tuple(value for value in STRANGE if type(value) is not str) + (b'all', b'', ['all'], ('all',), S, Q, BOB)
LONG = ('a' * 10 ** 6, '1' * 10 ** 6, '-' * 10 ** 5, ',' * 10 ** 5, ' ' * 10 ** 5, 'job(' * 10 ** 5,
        'chain ( ' * 10 ** 5,
        'chain ( all ; ' * 10 ** 5, 'chain ( all' + ' ; all' * 10 ** 5 + ' )', 'ranks ' + 'a,' * 10 ** 5,
        'job(' + 'a,' * 10 ** 5 + 'a)',
        'job(a,' + '9' * 10 ** 5 + ')', 'P <- ' + 'job(P,T) ' * 10 ** 4, 'P,' * 10 ** 5 + 'P <- job(P,T)',
        'job(bob,cork) | ' * 10 ** 4, 'a/1(name) ' * 10 ** 4, 'a/' + '1' * 10 ** 5 + '(name)',
        'a/1(' + 'name,' * 10 ** 5 + 'name)',
        ')' * 10 ** 5, 'chain ( ' * 500 + 'all' + ' )' * 500)


class Texts(Case):

    def both_ways(self, text, value, formatted, parse):
        """The value has this text, and the text this value; both functions come in lists with their arguments."""
        self.returns(text, *formatted)
        self.returns(value, parse[0], *parse[1:], text)

    def each_edit(self, text, parse, expected):
        """Texts like this one are parsed exactly if they are the text of something."""
        accepted = 0
        for other in text_oracle.edits(text):
            value = expected(other)
            if value is None:
                self.fails(ParseError('why'), *parse, other)
            else:
                self.returns(value, *parse, other)
                accepted += other != text
        return accepted


class TestFormats(Texts):

    def test_schemas(self):
        for schema, text in ((S, 'city/1(name,name) job/1(name,name)'), (ONE, 'a/0(number)'),
                             (N, 'full/2(name,number) pay/1(number,number,name) rate/0(number)'),
                             ((('abcdefgh', 4, ('name',) * 4),), 'abcdefgh/4(name,name,name,name)')):
            self.both_ways(text, schema, [format_schema, schema], [parse_schema])
        six = tuple((letter, 0, ('name',)) for letter in 'abcdef')
        self.both_ways(' '.join(f'{letter}/0(name)' for letter in 'abcdef'), six, [format_schema, six], [parse_schema])

    def test_records(self):
        for schema, table, record, text in (
                (S, 'job', ('ann', 'rome'), 'job(ann,rome)'), (N, 'rate', (0,), 'rate(0)'),
                (N, 'rate', (-5,), 'rate(-5)'),
                (N, 'pay', (10 ** 9, -(10 ** 9), 'abcdefgh'), 'pay(1000000000,-1000000000,abcdefgh)')):
            self.both_ways(text, (table, record), [format_record, schema, table, record], [parse_record, schema])

    def test_queries(self):
        for schema, query, text in (
                (S, Q, 'P,C <- job(P,T) city(T,C)'), (S, ((), (('job', ('P', 'rome')),)), '- <- job(P,rome)'),
                (S, ((), (('job', ('ann', 'rome')),)), '- <- job(ann,rome)'),
                (N, (('X', 'ABCD'), (('pay', (-7, 'X', 'v')), ('full', ('ABCD', 'X')), ('rate', (1,)))),
                 'X,ABCD <- pay(-7,X,v) full(ABCD,X) rate(1)')):
            self.both_ways(text, query, [format_query, schema, query], [parse_query, schema])

    def test_settlements(self):
        many = ('job', ('bob',), tuple(('bob', letter) for letter in 'abcdef'))
        for schema, settlement, text in (
                (S, BOB, 'job(bob,cork) | job(bob,lyon)'), (S, ('job', ('bob',), (('bob', 'cork'),)), 'job(bob,cork)'),
                (N, ('rate', (), ((-10,), (0,), (7,))), 'rate(-10) | rate(0) | rate(7)'),
                (N, ('full', ('ann', 1), (('ann', 1),)), 'full(ann,1)'),
                (S, many, ' | '.join(f'job(bob,{letter})' for letter in 'abcdef'))):
            self.both_ways(text, settlement, [format_settlement, schema, settlement], [parse_settlement, schema])

    def test_policies(self):
        for policy, text in (
                (('all',), 'all'), (('votes',), 'votes'), (('ranks', ('tom', 'eve')), 'ranks tom,eve'),
                (('ranks', ('a',)), 'ranks a'),
                (('trusted', ('eve', 'tom')), 'trusted eve,tom'),
                (('ranks', tuple('hgfedcba')), 'ranks h,g,f,e,d,c,b,a'),
                (('chain', (('all',), ('votes',))), 'chain ( all ; votes )'),
                (('chain', (('all',),) * 4), 'chain ( all ; all ; all ; all )'),
                # The words of the form may be sources, too.
                (('ranks', ('chain', 'all')), 'ranks chain,all'), (('chain', (('ranks', ('ranks',)), ('all',))),
                                                                   'chain ( ranks ranks ; all )'),
                (THREE, 'chain ( chain ( all ; ranks tom,eve ) ; votes ; trusted a,abcdefgh )')):
            self.both_ways(text, policy, [format_policy, policy], [parse_policy])

    def test_drawn_values(self):
        pick = random.Random(181)
        for _ in range(150):
            drawer = Drawer(pick)
            schema = drawer.schema
            self.both_ways(format_schema(schema), schema, [format_schema, schema], [parse_schema])
            for query in drawer.queries + [oracle.random_query(pick, schema)]:
                text = format_query(schema, query)
                self.assertEqual(text_oracle.query(schema, text), query)
                self.both_ways(text, query, [format_query, schema, query], [parse_query, schema])
            for _ in range(3):
                table, record, _ = drawer.claim()
                text = format_record(schema, table, record)
                self.assertEqual(text_oracle.record(schema, text), (table, record))
                self.both_ways(text, (table, record), [format_record, schema, table, record], [parse_record, schema])
                settlement = drawer.settlement()
                text = format_settlement(schema, settlement)
                self.assertEqual(text_oracle.settlement(schema, text), settlement)
                self.both_ways(text, settlement, [format_settlement, schema, settlement], [parse_settlement, schema])
                policy = drawn_policy(pick)
                text = format_policy(policy)
                self.assertEqual(text_oracle.policy(text), policy)
                self.both_ways(text, policy, [format_policy, policy], [parse_policy])


class TestParsing(Texts):

    def test_edits_of_schemas(self):
        accepted = sum(self.each_edit(text, [parse_schema], text_oracle.schema_in) for text in (
            format_schema(S), 'a/0(number)', 'a/1(name) b/0(number,name)'))
        self.assertGreater(accepted, 20)

    def test_edits_of_records(self):
        for schema, texts in ((S, ('job(ann,rome)',)), (N,
                                                        ('rate(0)', 'rate(-5)', 'rate(1000000000)',
                                                         'pay(10,-999999999,bob)',
                                                          'full(ann,100)'))):
            for text in texts:
                self.assertGreater(self.each_edit(text, [parse_record, schema],
                                                  lambda other, own=schema: text_oracle.record(own, other)), 2)

    def test_edits_of_queries(self):
        for schema, texts in ((S, ('P,C <- job(P,T) city(T,C)', '- <- job(P,rome)', 'P <- job(P,P)')),
                              (N, ('X <- rate(X) pay(1,-20,bob)',))):
            for text in texts:
                self.assertGreater(self.each_edit(text, [parse_query, schema],
                                                  lambda other, own=schema: text_oracle.query(own, other)), 2)

    def test_edits_of_settlements(self):
        for schema, texts in ((S, ('job(bob,cork) | job(bob,lyon)', 'job(bob,cork)')),
                              (N, ('rate(-10) | rate(0)', 'full(ann,1)'))):
            for text in texts:
                self.assertGreater(self.each_edit(text, [parse_settlement, schema],
                                                  lambda other, own=schema: text_oracle.settlement(own, other)), 2)

    def test_edits_of_policies(self):
        accepted = sum(self.each_edit(text, [parse_policy], text_oracle.policy) for text in (
            'all', 'votes', 'ranks tom,eve', 'trusted eve,tom', 'chain ( all ; votes )', format_policy(THREE),
            'chain ( all ; ranks a,b ; trusted a,b ; votes )'))
        self.assertGreater(accepted, 50)

    def test_samples(self):
        for text in ('', ' ', '-', 'all ', ' all', 'all  ', 'ALL', 'all\n', '\nall', 'ranks', 'ranks ', 'ranks -',
                     'ranks  tom',
                     'ranks tom, eve', 'ranks tom,tom', 'trusted tom,eve', 'ranks a,b,c,d,e,f,g,h,i', 'chain',
                     'chain (', 'chain ( )',
                     'chain ( all )', 'chain (all ; votes)', 'chain ( all ; )', 'chain ( ; all )',
                     'chain ( all ; votes ) ',
                     'chain ( all; votes )', 'chain ( all ;votes )', 'chain  ( all ; votes )', 'chain ( all ; votes',
                     'chain ( all ; votes ) )', 'chain ( all ; votes ; )', 'chain ( all ; votes ) all', 'all all',
                     'all ; votes',
                     'chain ( all votes )', 'chain ( all ; all ; all ; all ; all )', '( all ; votes )', 'ranks Tom',
                     'votes 1',
                     'chain ( chain ( chain ( all ; all ) ; all ) ; all )', 'chain ( all ; chain ( all ; all ) )x'):
            self.fails(ParseError('why'), parse_policy, text)
        for text in ('', ' ', 'job', 'job()', 'job(-)', 'job(ann)', 'job(ann,rome', 'job(ann,rome))', 'job(ann,rome) ',
                     ' job(ann,rome)',
                     'job(ann, rome)', 'job (ann,rome)', 'job( ann,rome)', 'job(ann,Rome)', 'job(ann,T)', 'job(ann,1)',
                     'jobs(ann,rome)',
                     'job(ann,,rome)', 'job(ann,rome,)', 'job(,ann,rome)', 'job(ann,rome)\n', 'job(ann;rome)',
                     'Job(ann,rome)',
                     'job((ann,rome)', 'job(ann,abcdefghi)', 'job[ann,rome]', 'city(ann)', 'job(ann,rome)job(ann,rome)',
                     '(ann,rome)'):
            self.fails(ParseError('why'), parse_record, S, text)
        for text in ('rate(00)', 'rate(01)', 'rate(-0)', 'rate(+1)', 'rate(-01)', 'rate(--1)', 'rate(-)', 'rate()',
                     'rate(1000000001)',
                     'rate(-1000000001)', 'rate(9999999999)', 'rate(00000000001)', 'rate(12345678901)', 'rate(1_000)',
                     'rate(1.0)',
                     'rate(1e3)', 'rate( 1)', 'rate(1 )', 'rate(0x1)', 'rate(' + '0' * 20 + ')',
                     'rate(' + '1' * 5000 + ')', 'rate(a)',
                     'rate(X)', 'rate(True)', 'rate(1-)', 'rate(1,1)', 'pay(1,2)', 'pay(1,2,3)', 'pay(ann,2,bob)'):
            self.fails(ParseError('why'), parse_record, N, text)

    def test_queries_that_are_none(self):
        for text in ('', '-', '<-', '- <-', '- <- ', ' <- job(P,T)', '<- job(P,T)', 'P job(P,T)', 'P <-job(P,T)',
                     'P<- job(P,T)',
                     'P <- job(P,T) ', ' P <- job(P,T)', 'P  <- job(P,T)', 'P <-  job(P,T)', 'P <- job(P,T)  city(T,C)',
                     'P,P <- job(P,T)',
                     'X <- job(P,T)', 'p <- job(P,T)', 'P -> job(P,T)', 'P <- job(P,T) <- city(T,C)',
                     'P <- job(P,T),city(T,C)',
                     'P, T <- job(P,T)', 'P <- job(P,T) job(T,C)', 'P <- jobs(P,T)', 'P <- job(P)', 'P <- job(P,T,C)',
                     'P <- job(P,1)',
                     '-,P <- job(P,T)', 'P,- <- job(P,T)', '1 <- job(P,T)', 'P <- job(ABCDE,P)', 'P <= job(P,T)',
                     'P <- job(P,T)\n',
                     'P <- job(P,T) city', 'P <- ', 'P', 'P <- job(P,-)', 'P xx job(P,T)', 'P,,T <- job(P,T)',
                     '- -- job(P,T)'):
            self.fails(ParseError('why'), parse_query, S, text)

    def test_settlements_that_are_none(self):
        for text in ('', '-', '|', 'job(bob,lyon) | job(bob,cork)', 'job(bob,cork) | job(bob,cork)',
                     'job(bob,cork)|job(bob,lyon)',
                     'job(bob,cork)  | job(bob,lyon)', 'job(bob,cork) |  job(bob,lyon)', 'job(bob,cork) | ',
                     ' | job(bob,cork)',
                     'job(bob,cork) | job(ann,lyon)', 'job(bob,cork) | city(bob,lyon)',
                     'city(bob,cork) | job(bob,lyon)', 'jobs(bob,cork)',
                     'job(bob,cork) job(bob,lyon)', 'job(bob,cork) ; job(bob,lyon)', 'job(bob,cork) | job(bob,lyon)\n',
                     'job(bob)',
                     ' | '.join(f'job(bob,{letter})' for letter in 'abcdefg'), 'job(bob,cork) | (bob,lyon)',
                     'job(bob,cork) | lyon'):
            self.fails(ParseError('why'), parse_settlement, S, text)
        self.fails(ParseError('why'), parse_settlement, N, 'rate(-5) | rate(-7)')
        self.fails(ParseError('why'), parse_settlement, N, 'rate(0) | rate(00)')

    def test_schemas_that_are_none(self):
        for text in ('', '-', 'a', 'a/1', 'a/1()', 'a/1(-)', 'a/0(-)', 'a/2(name)', 'a/-1(name)', 'a/01(name)',
                     'a/+1(name)', 'a/1(name',
                     'a/1(names)', 'a/1(name )', 'a/1( name)', 'a/ 1(name)', 'a /1(name)', 'A/1(name)',
                     'abcdefghi/1(name)', 'a/1(name) ',
                     ' a/1(name)', 'a/1(name)  b/1(name)', 'b/1(name) a/1(name)', 'a/1(name) a/1(name)',
                     'a/1(name),b/1(name)',
                     'a/1(name,name,name,name,name)', 'a/1(name;name)', 'a/1(name)\n', '/1(name)', 'a//1(name)',
                     'a/one(name)', 'a/name(1)',
                     ' '.join(f'{letter}/0(name)' for letter in 'abcdefg'), 'a/1(Name)', 'a/1((name)', 'a/1(name))',
                     'a/True(name)'):
            self.fails(ParseError('why'), parse_schema, text)

    def test_values_that_are_no_strings(self):
        for text in NOT_STRINGS:
            for parse in ([parse_schema], [parse_record, S], [parse_query, S], [parse_settlement, S], [parse_policy]):
                self.fails(ParseError('why'), *parse, text)

    def test_very_long_texts(self):
        for text in LONG:
            for parse in ([parse_schema], [parse_record, S], [parse_query, S], [parse_settlement, S], [parse_policy]):
                with self.assertRaises(ParseError):
                    parse[0](*parse[1:], text)


class TestErrors(Texts):

    def test_schemas(self):
        for schema in list(broken(S)) + list(STRANGE):
            self.fails(InvalidSchema('why'), format_schema, schema)
            self.fails(InvalidSchema('why'), format_record, schema, None, None)
            self.fails(InvalidSchema('why'), format_query, schema, None)
            self.fails(InvalidSchema('why'), format_settlement, schema, None)
            for parse in (parse_record, parse_query, parse_settlement):
                self.fails(InvalidSchema('why'), parse, schema, None)
                self.fails(InvalidSchema('why'), parse, schema, 'job(ann,rome)')

    def test_the_other_arguments(self):
        for table in ('jobs', '', None, True, 1, [], {}, ('job',)):
            self.fails(UnknownName(table), format_record, S, table, None)
        for record in list(broken(('ann', 'lyon'))) + [(), ('ann',), ('ann', 1), ['ann', 'lyon'], ('P', 'lyon')]:
            self.fails(InvalidRecord('why'), format_record, S, 'job', record)
        for record in ((True,), (False,), [0], (), 0):
            self.fails(InvalidRecord('why'), format_record, N, 'rate', record)
        for query in list(broken(Q)) + list(STRANGE):
            self.fails(InvalidQuery('why'), format_query, S, query)
        for settlement in list(broken(BOB)) + list(STRANGE) + [BOB[:2] + (BOB[2][::-1],), BOB[:2] + ((),)]:
            self.fails(InvalidSettlement('why'), format_settlement, S, settlement)
        for policy in list(broken(THREE)) + list(STRANGE) + ['all', ('chain', (THREE, ('all',)))]:
            self.fails(InvalidPolicy('why'), format_policy, policy)
