"""Claims (14.1)."""

import random

from rightrecord.errors import InvalidClaims, InvalidRecord, InvalidSchema, UnknownName
from rightrecord.sources.claims import MAX_CLAIMS, are_claims, is_claim, sources_of
from rightrecord.sources.policies import counting_claims
from tests import oracle
from tests.claim_oracle import SOURCES, drawn_claims
from tests.support import N, S, STRANGE, Case, broken

K = (('city', ('cork', 'eire'), 'eve'), ('city', ('lyon', 'gaul'), 'eve'), ('job', ('ann', 'lyon'), 'eve'),
     ('job', ('ann', 'nice'), 'tom'), ('job', ('bob', 'lyon'), 'tom'))
LETTERS = 'abcdefghijklmnopqrstuvwxyz'
RATE = ('rate', (0,), 'tom')
PAY = ('pay', (1, 0, 'ann'), 'a')


def many(records, sources, group=1):
    """Return claims of so many sources on each of so many records, which stand in groups of a size."""
    names = [one + other for one in LETTERS for other in LETTERS][:records]
    return tuple(('job', (names[at // group], names[at]), 's' + LETTERS[number])
                 for at in range(records) for number in range(sources))


class TestForm(Case):

    def test_claims(self):
        self.assertEqual(MAX_CLAIMS, 200)
        for claim in K + (('job', ('a', 'z'), 'abcdefgh'), ('job', ('ann', 'lyon'), 'z')):
            self.returns(True, is_claim, S, claim)
            self.returns(True, are_claims, S, (claim,))
        for claim in (RATE, PAY, ('full', ('ann', -(10 ** 9)), 'tom')):
            self.returns(True, is_claim, N, claim)
            self.returns(True, are_claims, N, (claim,))
        self.returns(True, are_claims, S, K)
        self.returns(True, are_claims, S, ())

    def test_any_value(self):
        for value in list(broken(K[2])) + list(STRANGE) + [
                K[2][:2], K[2] + ('tom',), K[2][::-1], ('jobs',) + K[2][1:], ('job', ('ann',), 'eve'),
                ('job', ('ann', 1), 'eve'), ('job', ('ann', 'lyon', 'x'), 'eve'), ('job', ['ann', 'lyon'], 'eve'),
                ('job', ('ann', 'lyon'), 'Eve'), ('job', ('ann', 'lyon'), 'abcdefghi'), ('job', ('ann', 'lyon'), ''),
                ('job', ('ann', 'lyon'), 7), ('job', ('ann', 'lyon'), ('eve',)), ('job', ('ANN', 'lyon'), 'eve'),
                ('job', ('ann', 'lyon'), None), (None, None, None), ({}, [], {}), K]:
            self.returns(False, is_claim, S, value)
            self.returns(False, are_claims, S, (value,))
        for claim in (RATE, PAY):
            for value in broken(claim):
                self.returns(False, is_claim, N, value)
                self.returns(False, are_claims, N, (value,))
        for value in (('rate', (False,), 'tom'), ('pay', (True, 0, 'ann'), 'a'), ('pay', (1, False, 'ann'), 'a')):
            self.returns(False, is_claim, N, value)

    def test_order_and_repetition(self):
        for value in list(broken(K)) + [value for value in STRANGE if value != ()] + [
                K[::-1], K + K[:1], K[:1] * 2, K[1:2] + K[:1], list(K), {K[0]: 1}, K[0], (K,), K + (None,)]:
            self.returns(False, are_claims, S, value)
        # Two sources of one record stand in the order of the sources.
        two = (('job', ('ann', 'lyon'), 'eve'), ('job', ('ann', 'lyon'), 'tom'))
        self.returns(True, are_claims, S, two)
        self.returns(False, are_claims, S, two[::-1])

    def test_the_limits(self):
        for records, sources, group in ((40, 5, 1), (40, 5, 6), (8, 25, 6), (40, 1, 4), (6, 1, 6), (6, 26, 6)):
            claims = many(records, sources, group)
            self.assertLessEqual(len(claims), 200)
            self.returns(True, are_claims, S, claims)
        for claims in (many(41, 1), many(41, 4, 6), many(7, 1, 7), many(7, 26, 7),
                       many(40, 5) + (('job', ('zz', 'z'), 'a'),),
                       many(40, 5)[:-1] + (('job', ('zz', 'z'), 'a'),), many(34, 6), many(8, 26)[:201]):
            self.returns(False, are_claims, S, claims)
            self.fails(InvalidClaims('why'), sources_of, S, claims, 'job', ('aa', 'aa'))
        self.returns(True, are_claims, S, many(8, 26)[:200])
        self.assertEqual(len(many(34, 6)), 204)
        self.returns(True, are_claims, S, many(33, 6))

    def test_limits_over_several_tables(self):
        cities = tuple(('city', claim[1], claim[2]) for claim in many(20, 1))
        self.returns(True, are_claims, S, cities + many(20, 1))
        self.returns(False, are_claims, S, cities + many(21, 1))
        self.returns(True, are_claims, S, cities[:7] + many(6, 1, 6))
        rates = tuple(('rate', (number,), 'eve') for number in range(7))
        self.returns(True, are_claims, N, rates[:6])
        self.returns(False, are_claims, N, rates)
        # All columns of the table belong to its key: each record is a group.
        full = tuple(('full', ('ann', number), 'eve') for number in range(41))
        self.returns(True, are_claims, N, full[:40])
        self.returns(False, are_claims, N, full)


class TestSources(Case):

    def test_samples(self):
        self.returns(('tom',), sources_of, S, K, 'job', ('ann', 'nice'))
        self.returns((), sources_of, S, K, 'job', ('ann', 'rome'))
        self.returns((), sources_of, S, K, 'city', ('ann', 'nice'))
        self.returns((), sources_of, S, (), 'job', ('ann', 'nice'))
        self.returns(tuple('s' + letter for letter in LETTERS[:5]), sources_of, S, many(40, 5), 'job', ('aa', 'aa'))

    def test_drawn_claims(self):
        pick = random.Random(131)
        for _ in range(100):
            schema = oracle.random_schema(pick)
            claims = drawn_claims(pick, schema)
            self.returns(True, are_claims, schema, claims)
            for table, _, kinds in schema:
                for record in {claim[1] for claim in claims if claim[0] == table}:
                    expected = tuple(source for source in SOURCES if (table, record, source) in claims)
                    self.returns(expected, sources_of, schema, claims, table, record)

    def test_the_order_of_the_errors(self):
        bad_schemas = [value for value in list(broken(S)) + list(STRANGE) if repr(value) != repr(S)]
        for schema in bad_schemas:
            self.fails(InvalidSchema('why'), is_claim, schema, K[0])
            self.fails(InvalidSchema('why'), are_claims, schema, K)
            self.fails(InvalidSchema('why'), sources_of, schema, None, None, None)
        for claims in list(broken(K)) + [value for value in STRANGE if value != ()]:
            self.fails(InvalidClaims('why'), sources_of, S, claims, 'jobs', None)
            self.fails(InvalidClaims('why'), counting_claims, S, claims, None)
        for table in ('jobs', '', None, True, 1, [], {}, ('job',)):
            self.fails(UnknownName(table), sources_of, S, K, table, None)
        for record in list(broken(('ann', 'lyon'))) + [(), ('ann',), ('ann', 1), ['ann', 'lyon']]:
            self.fails(InvalidRecord('why'), sources_of, S, K, 'job', record)
        for record in ((True,), (False,), [0], 0, ()):
            self.fails(InvalidRecord('why'), sources_of, N, (RATE,), 'rate', record)
