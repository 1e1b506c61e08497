"""Contrasts, and the groups that matter (12.4)."""

import itertools
import random

from rightrecord.certain.verdicts import classify
from rightrecord.data.choices import is_choice
from rightrecord.data.databases import conflicting_groups, group_names
from rightrecord.errors import InvalidAnswer, InvalidDatabase, InvalidQuery, TooMany, UnknownGroup, UnknownName
from rightrecord.settle.influence import find_contrast, influential_groups, is_contrast
from rightrecord.settle.settlements import disputed_groups, settled_database
from tests import oracle, rings
from tests.settle_oracle import Answer, inputs
from tests.support import D, M, S, STRANGE, Case, broken
from tests.test_settlements import drawn_settlements

Q = (('P', 'C'), (('job', ('P', 'T')), ('city', ('T', 'C'))))
EMPTY = (S, ((), ()))
ANN, BOB = ('job', ('ann',)), ('job', ('bob',))
GAUL = ('bob', 'gaul')
A, B = ('a',), ('b',)
INPUTS = inputs(101, 500, 200)


class Contrasts(Case):

    def check(self, database, query, answer, name, matters):
        """A contrast is found exactly if the group matters, and each part of it is what it must be."""
        found = self.stable(find_contrast, database, query, answer, *name)
        self.assertEqual(found is not None, matters, (database, query, answer, name))
        if found is not None:
            self.assertIs(type(found), tuple)
            self.returns(True, is_contrast, database, query, answer, *name, found)
        return found


class TestFind(Contrasts):

    def test_samples(self):
        pair = self.check(D, Q, GAUL, BOB, True)
        self.assertEqual([choice[4] for choice in pair], [('bob', 'lyon'), ('bob', 'cork')])
        self.assertEqual(pair[0][:4], pair[1][:4])
        self.check(D, Q, GAUL, ANN, False)
        # Groups with one record, an answer that is certain, and one that is impossible.
        for answer in (GAUL, ('ann', 'gaul'), ('eve', 'gaul')):
            self.check(D, Q, answer, ('city', ('lyon',)), False)
            self.check(D, Q, answer, ANN, False)
        self.returns((BOB,), influential_groups, D, Q, GAUL)
        self.returns((), influential_groups, D, Q, ('ann', 'gaul'))
        self.returns((), influential_groups, D, Q, ('eve', 'gaul'))
        # In the empty database nothing is open, whatever the head.
        self.returns((), influential_groups, EMPTY, Q, GAUL)
        self.returns((), influential_groups, EMPTY, ((), Q[1]), ())

    def test_the_empty_head(self):
        query = ((), (('job', ('P', 'nice')),))
        self.check(D, query, (), ANN, True)
        self.check(D, query, (), BOB, False)
        self.returns((ANN,), influential_groups, D, query, ())
        both = ((), (('job', ('P', 'lyon')),))
        self.returns((ANN, BOB), influential_groups, D, both, ())

    def test_against_all_choices(self):
        seen = {}
        for schema, query, database, answer in INPUTS:
            expected = Answer(database, query, answer)
            matters = expected.influential()
            self.returns(matters, influential_groups, database, query, answer)
            self.assertEqual(list(matters), sorted(set(matters)))
            self.assertEqual(classify(database, query, answer) == 'open', matters != ())
            for name in group_names(database):
                found = self.check(database, query, answer, name, name in matters)
                if found is not None:
                    self.assertIn(found, expected.contrasts(name))
            cyclic = bool(oracle.cycles(query, oracle.edges(schema, query)))
            idle = len(conflicting_groups(database)) > len(matters)
            seen[cyclic, len(matters), idle] = seen.get((cyclic, len(matters), idle), 0) + 1
        for cyclic in (True, False):
            for idle in (True, False):
                for many in (1, 2):
                    self.assertGreater(seen.get((cyclic, many, idle), 0), 2, seen)
        self.assertGreater(sum(seen[key] for key in seen if key[1] > 2), 10, seen)

    def test_several_components(self):
        """The answer must fail in all other components at once, where the group makes the difference."""
        database = (S, ((), (('ann', 'lyon'), ('ann', 'nice'), ('bob', 'lyon'), ('bob', 'nice'),
                             ('eve', 'lyon'), ('eve', 'rome'), ('tom', 'nice'), ('tom', 'rome'))))
        query = ((), (('job', ('P', 'lyon')),))
        for name in (ANN, BOB, ('job', ('eve',))):
            self.check(database, query, (), name, True)
        self.check(database, query, (), ('job', ('tom',)), False)
        # If one component always holds, nothing matters: ann works in gaul, wherever it is.
        gaul = ((), (('job', ('P', 'T')), ('city', ('T', 'gaul'))))
        self.returns((), influential_groups, D, gaul, ())
        for name in (ANN, BOB):
            self.check(D, gaul, (), name, False)
        both = rings.ring_database(rings.ring('a', 3), rings.path('b', 3))
        linked = ((), tuple((name, ('W',) + terms[1:]) for name, terms in rings.CYCLIC[1]))
        self.returns((), influential_groups, both, linked, ())
        self.assertNotEqual(influential_groups(both, rings.CYCLIC, A), ())
        # Nor does anything if a witness has no conflicting group.
        sure = (S, ((), database[1][1] + (('ulf', 'lyon'),)))
        self.returns((), influential_groups, sure, query, ())
        self.check(sure, query, (), ANN, False)

    def test_settling_without_a_dispute(self):
        """A group that does not matter does not matter in a database that is settled without a dispute."""
        pick = random.Random(103)
        settled_cases = fewer = 0
        for _, query, database, answer in INPUTS[::2]:
            settlements = drawn_settlements(pick, database, 3, False)
            if disputed_groups(database, settlements):
                continue
            settled = settled_database(database, settlements)
            before = influential_groups(database, query, answer)
            now = influential_groups(settled, query, answer)
            self.assertLessEqual(set(now), set(before))
            settled_cases += 1
            fewer += len(now) < len(before)
        self.assertGreater(settled_cases, 100)
        self.assertGreater(fewer, 20)

    def test_twenty_groups_in_components_of_their_own(self):
        letters = 'abcdefghijklmnopqrst'
        database = ((('keyed', 1, ('name', 'number')),), (tuple((one, at) for one in letters for at in (0, 1)),))
        query = ((), (('keyed', ('K', 1)),))
        names = tuple(('keyed', (one,)) for one in letters)
        self.returns(names, influential_groups, database, query, ())
        for name in names:
            pair = self.check(database, query, (), name, True)
            self.assertEqual(sum(record[1] for record in pair[0]), 1)


class TestIs(Contrasts):

    def test_all_pairs_of_choices(self):
        counts = {True: 0, False: 0}
        for _, query, database, answer in INPUTS[::5]:
            expected = Answer(database, query, answer)
            if len(expected.holds) > 12:
                continue
            for name in expected.names:
                pairs = expected.contrasts(name)
                for pair in itertools.product(expected.holds, repeat=2):
                    self.returns(pair in pairs, is_contrast, database, query, answer, *name, pair)
                    counts[pair in pairs] += 1
        self.assertGreater(counts[True], 100)

    def test_any_value(self):
        pair = find_contrast(D, Q, GAUL, *BOB)
        values = list(broken(pair)) + list(STRANGE) + [
            pair[::-1], pair[:1], pair + pair[:1], pair + (None,), (pair[0], pair[0]), (pair, pair), pair[0],
            list(pair), tuple(map(list, pair)), {pair[0]: pair[1]}, ({}, []), (pair[0][:-1], pair[1][:-1])]
        for value in values:
            self.returns(False, is_contrast, D, Q, GAUL, *BOB, value)
        # Another group, another answer.
        self.returns(False, is_contrast, D, Q, GAUL, *ANN, pair)
        self.returns(False, is_contrast, D, Q, ('ann', 'gaul'), *BOB, pair)
        self.returns(False, is_contrast, D, Q, ('bob', 'eire'), *BOB, pair)
        self.returns(True, is_contrast, D, Q, ('bob', 'eire'), *BOB, pair[::-1])
        two = (pair[0], pair[1][:3] + (('ann', 'nice'),) + pair[1][4:])
        self.assertTrue(is_choice(D, two[1]))
        self.returns(False, is_contrast, D, Q, GAUL, *BOB, two)

    def test_true_is_not_one(self):
        query = (('X',), (('rate', ('X',)),))
        pair = find_contrast(M, query, (1,), 'rate', ())
        self.returns(True, is_contrast, M, query, (1,), 'rate', (), pair)
        for value in broken(pair):
            self.returns(False, is_contrast, M, query, (1,), 'rate', (), value)
        for value in ((pair[0][:-1] + ((True,),), pair[1]), (pair[0], pair[1][:-1] + ((False,),))):
            self.returns(False, is_contrast, M, query, (1,), 'rate', (), value)


class TestErrors(Contrasts):

    def test_exactly_as_many_choices_as_allowed(self):
        for database, query in ((rings.EXACT, rings.CYCLIC), (rings.EXACT, rings.ACYCLIC)):
            is_open = classify(database, query, A) == 'open'
            for name in group_names(database):
                self.check(database, query, A, name, is_open)
            self.returns(group_names(database) if is_open else (), influential_groups, database, query, A)

    def test_too_many(self):
        """Also for a query without a cycle, and where another component or a free witness would decide."""
        for database in (rings.LARGER, rings.LARGE, rings.LARGE_PATH, rings.ONE_LARGE, rings.ONE_SURE):
            for query in (rings.CYCLIC, rings.ACYCLIC):
                self.fails(TooMany(4096), influential_groups, database, query, A)
                self.returns((), influential_groups, database, query, ('c',))
                for name in group_names(database):
                    self.fails(TooMany(4096), find_contrast, database, query, A, *name)
                    self.returns(None, find_contrast, database, query, ('c',), *name)
        self.returns((), influential_groups, rings.ONE_LARGE, rings.CYCLIC, B)

    def test_is_contrast_has_no_limit(self):
        database, query, name = rings.LARGE, rings.CYCLIC, ('left', ('a', 'xa'))
        expected = {}
        rows = oracle.all_rows(database)
        left = [record for record in rows['left'] if record[2] == 'y' + record[1][1]]
        right = [('a', 'y' + letter, 'x' + rings.LETTERS[(at - 1) % 7]) for at, letter in enumerate(rings.LETTERS[:7])]
        choice = tuple(left + right)
        self.assertTrue(is_choice(database, choice))
        other = (('a', 'xa', 'yb'),) + choice[1:]
        expected[choice, other] = False
        expected[other, choice] = True
        for pair, is_one in expected.items():
            self.returns(is_one, is_contrast, database, query, A, *name, pair)
        self.returns(False, is_contrast, database, query, A, 'left', ('a', 'xb'), (other, choice))

    def test_the_order_of_the_errors(self):
        pair = find_contrast(D, Q, GAUL, *BOB)
        for database in list(broken(D)) + list(STRANGE):
            self.fails(InvalidDatabase('why'), find_contrast, database, [], {}, None, None)
            self.fails(InvalidDatabase('why'), is_contrast, database, Q, GAUL, *BOB, pair)
            self.fails(InvalidDatabase('why'), influential_groups, database, None, None)
        for query in list(broken(Q)) + list(STRANGE):
            self.fails(InvalidQuery('why'), find_contrast, D, query, None, [], [])
            self.fails(InvalidQuery('why'), is_contrast, D, query, GAUL, *BOB, pair)
            self.fails(InvalidQuery('why'), influential_groups, D, query, None)
        for answer in list(broken(GAUL)) + [(), ('ann',), ['bob', 'gaul']]:
            self.fails(InvalidAnswer('why'), find_contrast, D, Q, answer, None, None)
            self.fails(InvalidAnswer('why'), is_contrast, D, Q, answer, 'jobs', ('bob',), pair)
            self.fails(InvalidAnswer('why'), influential_groups, D, Q, answer)
        for table in ('jobs', '', None, True, 1, [], {}, ('job',)):
            self.fails(UnknownName(table), find_contrast, D, Q, GAUL, table, None)
            self.fails(UnknownName(table), is_contrast, D, Q, GAUL, table, ('bob',), pair)
        for key in ((), ('eve',), ['bob'], 'bob', None, True, ('bob', 'lyon'), (['bob'],), {}, (1,)):
            self.fails(UnknownGroup(('job', key)), find_contrast, D, Q, GAUL, 'job', key)
            self.fails(UnknownGroup(('job', key)), is_contrast, D, Q, GAUL, 'job', key, None)
        query = (('X',), (('rate', ('X',)),))
        for key in ((True,), (False,), [0]):
            self.fails(UnknownGroup(('pay', key)), find_contrast, M, query, (0,), 'pay', key)
            self.fails(UnknownGroup(('pay', key)), is_contrast, M, query, (0,), 'pay', key, pair)

    def test_too_many_only_where_all_arguments_are_valid(self):
        large = (rings.LARGE, rings.CYCLIC)
        self.fails(InvalidAnswer('why'), find_contrast, *large, ('a', 'a'), None, None)
        self.fails(UnknownName('up'), find_contrast, *large, A, 'up', ('a', 'xa'))
        self.fails(UnknownGroup(('left', ('a', 'zz'))), find_contrast, *large, A, 'left', ('a', 'zz'))
        self.fails(InvalidAnswer('why'), influential_groups, *large, (1,))
