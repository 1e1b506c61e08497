"""Weights and shares (10.1, 10.2)."""

import fractions
import inspect
import itertools
import math
import random

from rightrecord.certain.verdicts import classify
from rightrecord.data.choices import choice_at, count_choices
from rightrecord.data.databases import with_record
from rightrecord.errors import InvalidAnswer, InvalidChoice, InvalidDatabase, InvalidQuery, InvalidWeights, TooMany
from rightrecord.measure.shares import answer_share, answer_shares, choice_share, expected_answers, is_weights
from rightrecord.query.matching import possible_answers
from tests import oracle, rings
from tests.support import D, M, S, STRANGE, Case, broken

Q = (('P', 'C'), (('job', ('P', 'T')), ('city', ('T', 'C'))))
WEIGHTS = ((1, 1, 1), (1, 1, 1, 3))
EMPTY = (S, ((), ()))
A = ('a',)
INPUTS = [each for each in oracle.random_inputs(81, 350) + oracle.cyclic_inputs(82, 350)
          if len(oracle.choices(each[2])) <= 64]
ANSWERS = (('ann', 'gaul'), ('bob', 'eire'), ('bob', 'gaul'))


def equal_weights(database):
    return tuple((1,) * len(rows) for rows in database[1])


def drawn_weights(pick, database):
    return tuple(tuple(pick.choice((1, 1, 2, 3, 10, 10 ** 6)) for _ in rows) for rows in database[1])


class TestWeights(Case):

    def test_weights(self):
        for value in (WEIGHTS, ((1, 2, 3), (4, 5, 6, 7)), ((10 ** 6,) * 3, (1, 10 ** 6) * 2)):
            self.returns(True, is_weights, D, value)
        self.returns(True, is_weights, EMPTY, ((), ()))

    def test_any_value(self):
        values = list(broken(WEIGHTS)) + list(STRANGE) + [
            ((1, 1, 1), (1, 1, 1)), ((1, 1, 1), (1, 1, 1, 1, 1)), ((1, 1), (1, 1, 1, 1)), ((1, 1, 1),),
            WEIGHTS[::-1], WEIGHTS + ((),), (1, 1, 1, 1, 1, 1, 3), ((1, 1, 1), (1, 1, 1, (3,))), ((1, 1, 1), {}),
            ((1, 1, 1), [1, 1, 1, 3]), ((1, 1, 1), (1, 1, 1, [])), (((1, 1), 1), (1, 1, 1, 3)), 'weights']
        for worth in (0, -1, 10 ** 6 + 1, True, False, None, '1', 'ann', (1,), [1], 10 ** 39):
            values += [((1, worth, 1), WEIGHTS[1]), (WEIGHTS[0], (1, 1, 1, worth))]
        for value in values:
            self.returns(False, is_weights, D, value)
            if value is not None:
                self.fails(InvalidWeights('why'), choice_share, D, choice_at(D, 0), weights=value)
                self.fails(InvalidWeights('why'), answer_share, D, Q, ('ann', 'gaul'), weights=value)
                self.fails(InvalidWeights('why'), answer_shares, D, Q, weights=value)
                self.fails(InvalidWeights('why'), expected_answers, D, Q, weights=value)
        self.returns(False, is_weights, EMPTY, ())
        self.returns(False, is_weights, EMPTY, ((),))
        self.returns(False, is_weights, EMPTY, ((1,), ()))


class TestChoiceShare(Case):

    def test_samples(self):
        self.returns((1, 8), choice_share, D, choice_at(D, 0), weights=WEIGHTS)
        self.returns((3, 8), choice_share, D, choice_at(D, 1), weights=WEIGHTS)
        self.returns((1, 4), choice_share, D, choice_at(D, 3))
        self.returns((1, 4), choice_share, D, choice_at(D, 3), weights=None)
        self.returns((1, 1), choice_share, EMPTY, ())
        self.returns((1, 1), choice_share, EMPTY, (), weights=((), ()))
        # The weight of a record that is alone in its group changes nothing.
        self.returns((1, 8), choice_share, D, choice_at(D, 0), weights=((7, 10 ** 6, 9), WEIGHTS[1]))
        self.returns((1, 2 * (10 ** 6 + 1)), choice_share, D, choice_at(D, 0),
                     weights=((1, 1, 1), (10 ** 6, 10 ** 6, 1, 10 ** 6)))

    def test_against_the_definition(self):
        pick = random.Random(83)
        for _, _, database in INPUTS[:120]:
            for weights in (drawn_weights(pick, database), equal_weights(database)):
                expected = oracle.shares(database, weights)
                self.assertEqual(sum(expected.values()), 1)
                for choice in expected:
                    self.returns(oracle.pair(expected[choice]), choice_share, database, choice, weights=weights)
            for choice in expected:
                self.returns(oracle.pair(expected[choice]), choice_share, database, choice)

    def test_forty_records_of_great_weight(self):
        letters = 'abcdefghijklmnopqrst'
        database = ((('keyed', 1, ('name', 'number')),),
                    (tuple((letter, at) for letter in letters for at in (0, 1)),))
        self.returns((1, 2 ** 20), choice_share, database, choice_at(database, 0))
        weights = ((10 ** 6, 1) * 20,)
        share = self.stable(choice_share, database, choice_at(database, 2 ** 20 - 1), weights=weights)
        self.assertEqual(share, (1, (10 ** 6 + 1) ** 20))


class TestAnswerShare(Case):

    def test_samples(self):
        self.returns((3, 4), answer_share, D, Q, ('bob', 'gaul'), weights=WEIGHTS)
        self.returns((1, 4), answer_share, D, Q, ('bob', 'eire'), weights=WEIGHTS)
        self.returns((1, 2), answer_share, D, Q, ('bob', 'eire'))
        self.returns((1, 1), answer_share, D, Q, ('ann', 'gaul'), weights=WEIGHTS)
        for answer in (('eve', 'gaul'), ('ann', 'eire')):
            self.returns((0, 1), answer_share, D, Q, answer, weights=WEIGHTS)
        self.returns({('ann', 'gaul'): (1, 1), ('bob', 'eire'): (1, 4), ('bob', 'gaul'): (3, 4)}, answer_shares, D, Q,
                     weights=WEIGHTS)
        self.returns((2, 1), expected_answers, D, Q, weights=WEIGHTS)
        for function in (answer_shares, expected_answers):
            expected = {answer_shares: {}, expected_answers: (0, 1)}[function]
            self.returns(expected, function, EMPTY, Q)
            self.returns(expected, function, EMPTY, ((), Q[1]))
            self.returns(expected, function, D, ((), (('job', ('P', 'P')),)))
        self.returns((0, 1), answer_share, EMPTY, ((), Q[1]), ())
        self.returns({(): (1, 1)}, answer_shares, D, ((), Q[1]))

    def test_against_all_choices(self):
        pick = random.Random(84)
        seen = set()
        for schema, query, database in INPUTS:
            weights = drawn_weights(pick, database)
            shares = oracle.shares(database, weights)
            held = oracle.answers_by_choice(query, database)
            expected = {answer: sum((shares[choice] for choice in held if answer in held[choice]),
                                    fractions.Fraction(0)) for answer in oracle.domains(schema, query)}
            for answer, share in expected.items():
                self.returns(oracle.pair(share), answer_share, database, query, answer, weights=weights)
                # 1 exactly for certain answers, 0 exactly for impossible ones.
                word = {0: 'impossible', 1: 'certain'}.get(share, 'open')
                self.returns(word, classify, database, query, answer)
                seen.add(share)
            possible = {answer: oracle.pair(expected[answer]) for answer in sorted(expected) if expected[answer]}
            self.returns(possible, answer_shares, database, query, weights=weights)
            total = sum(expected.values())
            self.returns(oracle.pair(fractions.Fraction(total)), expected_answers, database, query, weights=weights)
            mean = sum(shares[choice] * len(held[choice]) for choice in held)
            self.assertEqual(mean, total)
            self.returns(self.stable(answer_shares, database, query, weights=equal_weights(database)),
                         answer_shares, database, query)
        self.assertGreater(len(seen), 60)

    def test_the_keys_ascend_and_the_terms_are_lowest(self):
        for _, query, database in INPUTS[:150]:
            shares = answer_shares(database, query)
            self.assertEqual(tuple(shares), possible_answers(database, query))
            for numerator, denominator in list(shares.values()) + [expected_answers(database, query)]:
                self.assertEqual(math.gcd(numerator, denominator), 1)
                self.assertGreaterEqual(denominator, 1)

    def test_what_changes_nothing(self):
        """A record that is alone in its group and fits nothing; its weight; groups that no witness uses."""
        database = with_record(with_record(D, 'job', ('eve', 'rome')), 'city', ('york', 'hell'))
        for answer in ANSWERS:
            weights = ((1, 1, 1, 5), (1, 1, 1, 3, 7))
            self.returns(answer_share(D, Q, answer, weights=WEIGHTS), answer_share, database, Q, answer,
                         weights=weights)
            more = with_record(database, 'job', ('eve', 'bath'))
            self.returns(answer_share(D, Q, answer), answer_share, more, Q, answer)

    def test_atoms_without_a_common_variable(self):
        """The share of a pair of answers is the product of their shares."""
        pick = random.Random(85)
        for _ in range(60):
            schema = oracle.random_schema(pick, tables=4)
            if len(schema) < 2:
                continue
            database = oracle.random_database(pick, schema)
            weights = drawn_weights(pick, database)
            spare = iter('ABCDEFGHIJKL')
            atoms = tuple((name, tuple(next(spare) if pick.random() < 0.6 else {'name': 'u', 'number': 1}[kind]
                                       for kind in kinds)) for name, _, kinds in schema[:2])
            if len(oracle.choices(database)) <= 64:
                one, other = (answer_share(database, ((), (atom,)), (), weights=weights) for atom in atoms)
                both = fractions.Fraction(*one) * fractions.Fraction(*other)
                self.returns(oracle.pair(both), answer_share, database, ((), atoms), (), weights=weights)

    def test_components_have_nothing_to_do_with_one_another(self):
        """An answer fails if it fails in each component: what the components fail with is multiplied."""
        cyclic = ((), tuple((name, ('Z',) + terms[1:]) for name, terms in rings.CYCLIC[1]))
        both = rings.ring_database(rings.ring('a', 2), rings.ring('b', 3), rings.ring('c', 4))
        fails = [1 - fractions.Fraction(*answer_share(both, rings.CYCLIC, (tag,))) for tag in 'abc']
        self.assertEqual(fails, [fractions.Fraction(1, 2 ** (2 * count - 1)) for count in (2, 3, 4)])
        self.returns(oracle.pair(1 - math.prod(fails)), answer_share, both, cyclic, ())
        for tag, count in zip('abc', (2, 3, 4)):
            alone = rings.ring_database(rings.ring(tag, count))
            self.returns(answer_share(both, rings.CYCLIC, (tag,)), answer_share, alone, rings.CYCLIC, (tag,))


class TestLimits(Case):

    def test_exactly_as_many_choices_as_allowed(self):
        self.returns((2047, 2048), answer_share, rings.EXACT, rings.CYCLIC, A)
        for query in (rings.CYCLIC, rings.ACYCLIC):
            self.returns((1, 1), answer_share, rings.EXACT_PATH, query, A)
            self.returns({A: (1, 1)}, answer_shares, rings.EXACT_PATH, query)
        self.returns((2047, 2048), expected_answers, rings.EXACT, rings.CYCLIC)

    def test_too_many_also_without_a_cycle(self):
        for query in (rings.CYCLIC, rings.ACYCLIC):
            for database in (rings.LARGER, rings.LARGE, rings.LARGE_PATH, rings.ONE_LARGE, rings.ONE_SURE):
                self.fails(TooMany(4096), answer_share, database, query, A)
                self.fails(TooMany(4096), answer_share, database, query, A, weights=equal_weights(database))
                self.fails(TooMany(4096), answer_shares, database, query)
                self.fails(TooMany(4096), expected_answers, database, query)
                # Neither an impossible answer nor one with small components is concerned.
                self.returns((0, 1), answer_share, database, query, ('c',))
            self.returns((1, 1), answer_share, rings.ONE_LARGE, query, ('b',))

    def test_many_groups_in_small_components(self):
        letters = 'abcdefghijklmnopqrst'
        database = ((('keyed', 1, ('name', 'number')),),
                    (tuple((letter, at) for letter in letters for at in (0, 1)),))
        self.returns((2 ** 20 - 1, 2 ** 20), answer_share, database, ((), (('keyed', ('K', 1)),)), ())
        self.returns((1, 1), answer_share, database, ((), (('keyed', ('K', 'X')),)), ())
        self.returns((20, 1), expected_answers, database, (('K', 'X'), (('keyed', ('K', 'X')),)))

    def test_groups_of_six(self):
        rows = tuple(('a' * (1 + at), record) for at in range(6) for record in range(6))
        database = ((('keyed', 1, ('name', 'number')),), (rows,))
        weights = (tuple(1 + at % 6 for at in range(36)),)
        self.returns((1, 21), answer_share, database, (('K',), (('keyed', ('K', 0)),)), ('aaa',), weights=weights)
        self.returns((2, 7), answer_share, database, (('X',), (('keyed', ('aa', 'X')),)), (5,), weights=weights)
        self.assertEqual(count_choices(database), 6 ** 6)
        self.returns(oracle.pair(1 - fractions.Fraction(5, 6) ** 6), answer_share, database,
                     ((), (('keyed', ('K', 0)),)), ())


class TestErrors(Case):

    def test_the_order_of_the_errors(self):
        choice = choice_at(D, 0)
        for database in list(broken(D)) + list(STRANGE):
            self.fails(InvalidDatabase('why'), is_weights, database, WEIGHTS)
            self.fails(InvalidDatabase('why'), choice_share, database, None, weights=0)
            self.fails(InvalidDatabase('why'), answer_share, database, Q, ('ann', 'gaul'), weights=[])
            self.fails(InvalidDatabase('why'), answer_shares, database, None)
            self.fails(InvalidDatabase('why'), expected_answers, database, Q, weights=WEIGHTS)
        for query in list(broken(Q)) + list(STRANGE):
            for weights in (WEIGHTS, [], None):
                self.fails(InvalidQuery('why'), answer_share, D, query, None, weights=weights)
                self.fails(InvalidQuery('why'), answer_shares, D, query, weights=weights)
                self.fails(InvalidQuery('why'), expected_answers, D, query, weights=weights)
        for answer in list(broken(('ann', 'gaul'))) + [(), ('ann',), ('ann', 1), ['ann', 'gaul']]:
            for weights in (WEIGHTS, [], None):
                self.fails(InvalidAnswer('why'), answer_share, D, Q, answer, weights=weights)
        for value in list(broken(choice)) + list(STRANGE) + [choice[1:], choice[::-1]]:
            for weights in (WEIGHTS, [], None):
                self.fails(InvalidChoice('why'), choice_share, D, value, weights=weights)
        for value in broken(choice_at(M, 0)):
            self.fails(InvalidChoice('why'), choice_share, M, value)
        for weights in ((), [], True, 0, WEIGHTS):
            self.fails(InvalidWeights('why'), answer_share, rings.LARGE, rings.CYCLIC, A, weights=weights)
            self.fails(InvalidWeights('why'), answer_shares, rings.LARGE, rings.CYCLIC, weights=weights)
            self.fails(InvalidWeights('why'), expected_answers, rings.LARGE, rings.CYCLIC, weights=weights)

    def test_weights_are_passed_by_keyword_only(self):
        for function, arguments in ((choice_share, (D, choice_at(D, 0))), (answer_share, (D, Q, ('ann', 'gaul'))),
                                    (answer_shares, (D, Q)), (expected_answers, (D, Q))):
            parameter = inspect.signature(function).parameters['weights']
            self.assertEqual((parameter.kind, parameter.default), (inspect.Parameter.KEYWORD_ONLY, None))
            with self.assertRaises(TypeError):
                function(*arguments, WEIGHTS)

    def test_the_truth_values_of_answers(self):
        query = (('X',), (('rate', ('X',)),))
        self.returns((1, 3), answer_share, M, query, (1,))
        for answer in ((True,), (False,)):
            self.fails(InvalidAnswer('why'), answer_share, M, query, answer)
        for entries in itertools.product((1, True), repeat=2):
            weights = ((1, 1), (1, 1, 1), (1,) + entries)
            self.returns(entries == (1, 1) and repr(entries) == '(1, 1)', is_weights, M, weights)
