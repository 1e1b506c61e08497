"""Policies (14.2), and what they do to answers (14.3)."""

import random

from rightrecord.certain.verdicts import classify
from rightrecord.data.databases import group_names, is_database, table_rows
from rightrecord.errors import InvalidClaims, InvalidPolicy, InvalidSchema
from rightrecord.sources.policies import claimed_database, counting_claims, is_policy
from tests import oracle
from tests.claim_oracle import counting, drawn_claims, drawn_policy, group_of
from tests.settle_oracle import inputs
from tests.support import S, STRANGE, Case, broken
from tests.test_claims import K, many

ALL, VOTES = ('all',), ('votes',)
EIGHT = ('a', 'abcdefgh', 'b', 'c', 'd', 'e', 'f', 'g')
TWO = ('chain', (ALL, VOTES))
THREE = ('chain', (TWO, ('ranks', ('tom', 'eve'))))


def claims_on(*pairs):
    """Return claims on the town of ann, from pairs of a town and its sources."""
    return tuple(sorted(('job', ('ann', town), source) for town, sources in pairs for source in sources))


class TestIsPolicy(Case):

    def test_policies(self):
        for policy in (ALL, VOTES, ('ranks', ('tom', 'eve')), ('ranks', ('z',)), ('ranks', EIGHT),
                       ('ranks', EIGHT[::-1]),
                       ('trusted', ('a',)), ('trusted', EIGHT), TWO, ('chain', (ALL,) * 4), ('chain', (VOTES, VOTES)),
                       THREE, ('chain', (ALL, ALL, ('trusted', ('eve', 'tom')))), ('chain', (THREE[1][0],) * 4)):
            self.returns(True, is_policy, policy)
            self.returns(K if policy == ALL else counting(S, K, policy), counting_claims, S, K, policy)

    def test_any_value(self):
        nine = EIGHT + ('h',)
        for value in list(STRANGE) + list(broken(THREE)) + list(broken(('trusted', ('eve', 'tom')))) + [
                'all', ('all', ()), ('votes', ()), ('ranks',), ('trusted',), ('chain',), ('ranks', ()), ('trusted', ()),
                ('ranks', nine), ('trusted', nine), ('ranks', ('a', 'a')), ('trusted', ('a', 'a')),
                ('ranks', ('a', 'b', 'a')), ('trusted', ('tom', 'eve')), ('trusted', ('a', 'c', 'b')), ('ranks', 'tom'),
                ('ranks', ['tom']), ('ranks', ('Tom',)), ('ranks', ('',)), ('ranks', ('abcdefghi',)), ('ranks', (1,)),
                ('ranks', (True,)), ('ranks', (None,)), ('ranks', ([],)), ('ranks', ('a', {})), ('trusted', ('a', [])),
                ('trusted', ('a', 1)), ('chain', ()), ('chain', (ALL,)), ('chain', (ALL,) * 5), ('chain', ALL),
                ('chain', [ALL, ALL]), ('chain', (ALL, 'all')), ('chain', (ALL, None)), ('chain', (ALL, [])),
                ('rank', ('a',)),
                ('chain', (ALL, ('votes', ()))), ('chain', (THREE, ALL)), ('chain', (ALL, THREE)), (ALL,), (None, ()),
                ([], ()), ({}, ('a',)), ('all', 'votes'), ('ranks', ('tom',), ()), ('chain', (ALL, VOTES), ()),
                ['all']]:
            self.returns(False, is_policy, value)
            self.fails(InvalidPolicy('why'), counting_claims, S, K, value)
            self.fails(InvalidPolicy('why'), claimed_database, S, K, policy=value)

    def test_three_and_four_within_one_another(self):
        policy = ALL
        for levels in range(1, 60):
            self.returns(levels <= 3, is_policy, policy)
            policy = ('chain', (policy, ALL)) if levels % 2 else ('chain', (VOTES, policy))


class TestCounting(Case):

    def test_samples(self):
        self.returns(K, counting_claims, S, K, ALL)
        self.returns(K[:3] + K[4:], counting_claims, S, K, ('ranks', ('eve',)))
        self.returns(K[:2] + K[3:], counting_claims, S, K, ('ranks', ('tom', 'eve')))
        self.returns(K[:3] + K[4:], counting_claims, S, K, ('ranks', ('eve', 'tom')))
        self.returns(K, counting_claims, S, K, ('ranks', ('sam',)))
        self.returns(K[:2] + K[3:], counting_claims, S, K, ('trusted', ('tom',)))
        self.returns(K, counting_claims, S, K, ('trusted', ('eve', 'tom')))
        self.returns(K, counting_claims, S, K, VOTES)
        for policy in (ALL, VOTES, ('ranks', ('eve',)), ('trusted', ('tom',)), THREE):
            self.returns((), counting_claims, S, (), policy)
            self.returns((S, ((), ())), claimed_database, S, (), policy=policy)

    def test_sources_that_are_not_listed(self):
        claims = claims_on(('lyon', ('a', 'b')), ('nice', ('c',)), ('rome', ('c', 'd')))
        # They are equal to one another, and worse than all others.
        self.returns(claims, counting_claims, S, claims, ('ranks', ('x', 'y')))
        self.returns(claims_on(('nice', 'c'), ('rome', 'c')), counting_claims, S, claims, ('ranks', ('x', 'c', 'a')))
        self.returns(claims_on(('lyon', 'a')), counting_claims, S, claims, ('ranks', ('a', 'c')))
        self.returns(claims_on(('rome', 'd')), counting_claims, S, claims, ('ranks', ('d',)))
        self.returns(claims, counting_claims, S, claims, ('trusted', ('x', 'y')))
        self.returns(claims_on(('lyon', 'b'), ('nice', 'c'), ('rome', 'c')), counting_claims, S, claims,
                     ('trusted', ('b', 'c', 'x')))

    def test_votes(self):
        claims = claims_on(('lyon', ('a', 'b')), ('nice', ('c',)), ('rome', ('c', 'd')), ('turin', ('e',)))
        self.returns(claims_on(('lyon', 'ab'), ('rome', 'cd')), counting_claims, S, claims, VOTES)
        more = claims_on(('lyon', ('a', 'b')), ('nice', ('c',)), ('rome', ('c', 'd', 'e')))
        self.returns(claims_on(('rome', 'cde')), counting_claims, S, more, VOTES)
        # In each group of its own.
        bob = (('job', ('bob', 'cork'), 'a'),)
        self.returns(claims_on(('rome', 'cde')) + bob, counting_claims, S, more + bob, VOTES)

    def test_chains(self):
        claims = claims_on(('lyon', ('a', 'b')), ('nice', ('c',)), ('rome', ('c', 'd')))
        both = ('chain', (VOTES, ('trusted', ('c',))))
        self.returns(claims_on(('rome', 'c')), counting_claims, S, claims, both)
        self.returns(claims_on(('nice', 'c'), ('rome', 'c')), counting_claims, S, claims, ('chain', both[1][::-1]))
        # After the first policy nobody is left whom the second one lists, so all that are left count.
        self.returns(claims_on(('lyon', 'ab'), ('rome', 'cd')), counting_claims, S, claims,
                     ('chain', (VOTES, ('trusted', ('x',)))))
        self.returns(claims_on(('lyon', 'a')), counting_claims, S, claims,
                     ('chain', (('ranks', ('a',)), ('ranks', ('d',)))))
        self.returns(claims_on(('rome', 'd')), counting_claims, S, claims,
                     ('chain', (('chain', (VOTES, ('ranks', ('d',)))), ALL)))

    def test_against_the_definition(self):
        pick = random.Random(141)
        fewer = {}
        for _ in range(600):
            schema = oracle.random_schema(pick)
            claims = drawn_claims(pick, schema)
            policy = drawn_policy(pick)
            self.returns(True, is_policy, policy)
            expected = counting(schema, claims, policy)
            self.returns(expected, counting_claims, schema, claims, policy)
            pairs = {(table, record) for table, record, _ in expected}
            database = (schema, tuple(tuple(sorted(record for name, record in pairs if name == table[0]))
                                      for table in schema))
            self.returns(database, claimed_database, schema, claims, policy=policy)
            self.assertTrue(is_database(database))
            # The groups stay, and each keeps some of its records.
            everything = claimed_database(schema, claims)
            self.assertEqual(group_names(database), group_names(everything))
            self.assertEqual({group_of(schema, claim) for claim in expected}, set(group_names(everything)))
            for table in schema:
                self.assertLessEqual(set(table_rows(database, table[0])), set(table_rows(everything, table[0])))
            fewer[policy[0]] = fewer.get(policy[0], 0) + (database != everything)
        self.assertEqual(fewer.pop('all'), 0)
        self.assertGreater(min(fewer.values()), 20, fewer)

    def test_many_claims(self):
        claims = many(40, 5, 6)
        self.returns(tuple(claim for claim in claims if claim[2] == 'sd'), counting_claims, S, claims,
                     ('ranks', ('sz', 'sd')))
        self.returns(claims, counting_claims, S, claims, VOTES)

    def test_the_default(self):
        expected = (S, ((('cork', 'eire'), ('lyon', 'gaul')), (('ann', 'lyon'), ('ann', 'nice'), ('bob', 'lyon'))))
        self.returns(expected, claimed_database, S, K)
        self.returns(expected, claimed_database, S, K, policy=ALL)
        self.returns((S, ((('cork', 'eire'), ('lyon', 'gaul')), (('ann', 'nice'), ('bob', 'lyon')))), claimed_database,
                     S, K, policy=('trusted', ('tom',)))
        with self.assertRaises(TypeError):
            claimed_database(S, K, ALL)


class TestAnswers(Case):

    def test_what_is_certain_or_impossible_stays_so(self):
        pick = random.Random(142)
        changes = {}
        for schema, query, database, answer in inputs(143, 400, 300):
            claims = drawn_claims(pick, schema, database[1])
            parts = [drawn_policy(pick, 2) for _ in range(pick.randint(2, 4))]
            kinds = [classify(claimed_database(schema, claims), query, answer)]
            kinds.append(classify(claimed_database(schema, claims, policy=parts[0]), query, answer))
            for many_parts in range(2, len(parts) + 1):
                policy = ('chain', tuple(parts[:many_parts]))
                kinds.append(classify(claimed_database(schema, claims, policy=policy), query, answer))
            for before, now in zip(kinds, kinds[1:]):
                if before != 'open':
                    self.assertEqual(now, before, (schema, query, claims, parts))
                changes[before, now] = changes.get((before, now), 0) + 1
        self.assertGreater(min(changes[key] for key in (('open', 'certain'), ('open', 'impossible'), ('open', 'open'),
                                                        ('certain', 'certain'))), 20, changes)

    def test_names_make_no_difference(self):
        """Tables, values, variables and sources may have other names, which stand in another order, too."""
        pick = random.Random(144)
        for schema, query, database, answer in inputs(145, 150, 300):
            claims = drawn_claims(pick, schema, database[1])
            policy = drawn_policy(pick)
            rename = Renaming(pick)
            names = rename.schema(schema)
            self.returns(rename.claims(counting_claims(schema, claims, policy)), counting_claims, names,
                         rename.claims(claims), rename.policy(policy))
            kinds = [classify(claimed_database(schema, claims, policy=policy), query, answer),
                     classify(claimed_database(names, rename.claims(claims), policy=rename.policy(policy)),
                              rename.query(query), rename.values(answer))]
            self.assertEqual(kinds[0], kinds[1])


class Renaming:
    """New names for tables, names as values, variables and sources, and new numbers, drawn once for each."""

    def __init__(self, pick):
        self.pick = pick
        self.known = {}

    def word(self, sort, word, letters='abcdefghij'):
        if (sort, word) not in self.known:
            new = ''.join(self.pick.choice(letters) for _ in range(3))
            while (sort, new) in self.known.values():
                new = ''.join(self.pick.choice(letters) for _ in range(3))
            self.known[sort, word] = (sort, new)
        return self.known[sort, word][1]

    def term(self, term):
        if isinstance(term, int):
            return 7 - term
        return self.word('variable', term, 'ABCD') if term.isupper() else self.word('value', term)

    def values(self, values):
        return tuple(self.term(value) for value in values)

    def schema(self, schema):
        return tuple(sorted((self.word('table', name), size, kinds) for name, size, kinds in schema))

    def query(self, query):
        return (self.values(query[0]), tuple((self.word('table', table), self.values(terms)) for table,
                                             terms in query[1]))

    def claims(self, claims):
        return tuple(sorted((self.word('table', table), self.values(record), self.word('source', source))
                            for table, record, source in claims))

    def policy(self, policy):
        if policy[0] == 'chain':
            return policy[0], tuple(self.policy(part) for part in policy[1])
        names = [self.word('source', source) for source in policy[-1]] if len(policy) == 2 else []
        return policy[:1] + ((tuple(names if policy[0] == 'ranks' else sorted(names)),) if names else ())


class TestErrors(Case):

    def test_the_order_of_the_errors(self):
        for schema in list(broken(S)) + list(STRANGE):
            self.fails(InvalidSchema('why'), counting_claims, schema, None, None)
            self.fails(InvalidSchema('why'), claimed_database, schema, K)
            self.fails(InvalidSchema('why'), claimed_database, schema, None, policy=None)
        for claims in list(broken(K)) + [value for value in STRANGE if value != ()] + [K[::-1], K + K, many(41, 1)]:
            self.fails(InvalidClaims('why'), counting_claims, S, claims, None)
            self.fails(InvalidClaims('why'), claimed_database, S, claims)
            self.fails(InvalidClaims('why'), claimed_database, S, claims, policy=[])
