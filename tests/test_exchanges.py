"""Choices that refute an answer, and exchanges (8.2)."""

import itertools
import random

from rightrecord.attack.closures import unattacked_variables
from rightrecord.certain.exchanges import exchange, is_refuting, refuting_choice
from rightrecord.data.choices import choice_at
from rightrecord.errors import CyclicQuery, InvalidAnswer, InvalidChoice, InvalidDatabase, InvalidQuery
from tests import oracle
from tests.support import D, M, S, STRANGE, Case, broken

Q = (('P', 'C'), (('job', ('P', 'T')), ('city', ('T', 'C'))))
U = (('left', 1, ('name', 'name')), ('right', 1, ('name', 'name')))
W = ((), (('left', ('X', 'Y')), ('right', ('Y', 'X'))))
EMPTY = (S, ((), ()))
E = (S, ((('cork', 'eire'), ('lyon', 'gaul')), D[1][1]))
QP = (('P',), Q[1])
INPUTS = [each for each in oracle.random_inputs(51, 500) + oracle.random_inputs(52, 300, kinds=('name',), tables=5)
          if len(oracle.choices(each[2])) <= 32]


class TestRefuting(Case):

    def test_is_refuting(self):
        for schema, query, database in INPUTS[:150] + oracle.cyclic_inputs(53, 50):
            for choice, held in list(oracle.answers_by_choice(query, database).items())[:6]:
                for answer in oracle.domains(schema, query)[:6]:
                    self.returns(answer not in held, is_refuting, database, query, answer, choice)

    def test_any_value(self):
        choice = choice_at(D, 0)
        self.returns(True, is_refuting, D, Q, ('bob', 'gaul'), choice)
        self.returns(False, is_refuting, D, Q, ('bob', 'eire'), choice)
        for value in list(broken(choice)) + list(STRANGE) + [choice[1:], choice + choice[:1], choice[::-1]]:
            self.returns(False, is_refuting, D, Q, ('bob', 'gaul'), value)
            self.returns(False, is_refuting, D, Q, ('eve', 'gaul'), value)
        choice = choice_at(M, 0)
        query = (('X',), (('rate', ('X',)),))
        self.returns(True, is_refuting, M, query, (5,), choice)
        for value in broken(choice):
            self.returns(False, is_refuting, M, query, (5,), value)
        self.returns(True, is_refuting, EMPTY, Q, ('ann', 'gaul'), ())
        self.returns(False, is_refuting, EMPTY, Q, ('ann', 'gaul'), [])

    def test_refuting_choices_against_all_choices(self):
        refuted = certain = impossible = 0
        for schema, query, database in INPUTS:
            if oracle.cycles(query, oracle.edges(schema, query)):
                continue
            held = oracle.answers_by_choice(query, database)
            for answer, word in oracle.classes(schema, query, database).items():
                choice = self.stable(refuting_choice, database, query, answer)
                if word == 'certain':
                    self.assertIsNone(choice)
                    certain += 1
                else:
                    self.assertNotIn(answer, held[choice])
                    self.returns(True, is_refuting, database, query, answer, choice)
                    refuted += word == 'open'
                    impossible += word == 'impossible'
        self.assertGreater(min(refuted, certain, impossible), 150)

    def test_samples(self):
        self.returns(None, refuting_choice, D, Q, ('ann', 'gaul'))
        for answer in (('bob', 'gaul'), ('bob', 'eire'), ('eve', 'gaul'), ('ann', 'eire')):
            self.returns(True, is_refuting, D, Q, answer, refuting_choice(D, Q, answer))
        self.returns((), refuting_choice, EMPTY, Q, ('ann', 'gaul'))

    def test_twenty_conflicting_groups(self):
        letters = 'abcdefghijklmnopqrst'
        database = ((('keyed', 1, ('name', 'number')),),
                    (tuple((letter, at) for letter in letters for at in (0, 1)),))
        query = ((), (('keyed', ('K', 1)),))
        choice = self.stable(refuting_choice, database, query, ())
        self.assertEqual(choice, tuple((letter, 0) for letter in letters))
        self.returns(None, refuting_choice, database, ((), (('keyed', ('K', 'X')),)), ())
        tables = tuple((name, 1, ('name', 'number')) for name in 'abcd')
        database = (tables, (tuple((letter, at) for letter in 'uvwxy' for at in (0, 1)),) * 4)
        for at in range(4):
            atoms = tuple((name, (key, 1 if at == place else 'X' + key))
                          for place, (name, key) in enumerate(zip('abcd', 'KLMN')))
            choice = self.stable(refuting_choice, database, ((), atoms), ())
            self.returns(True, is_refuting, database, ((), atoms), (), choice)
        # All four at once: each place of the elimination order has five keys to refute.
        atoms = tuple((name, (key, 1)) for name, key in zip('abcd', 'KLMN'))
        choice = self.stable(refuting_choice, database, ((), atoms), ())
        self.returns(True, is_refuting, database, ((), atoms), (), choice)

    def test_chains(self):
        """A chain of keys: what is chosen for one town must not bring back the answer of another one."""
        tables = tuple((name, 1, ('number', 'number')) for name in 'abcd')
        query = ((), (('a', ('K', 'X')), ('b', ('X', 'Y')), ('c', ('Y', 'Z')), ('d', ('Z', 0))))
        ends = ((0, 0), (0, 1), (1, 0), (2, 1), (3, 0), (3, 1))
        steps = tuple(sorted((key, (key + more) % 4) for key in range(4) for more in (0, 1)))
        for count in range(2, 8):
            database = (tables, (tuple((key, key % 4) for key in range(count)), steps, steps, ends))
            for order in ((0, 1, 2, 3), (3, 1, 0, 2)):
                turned = ((), tuple(query[1][at] for at in order))
                choice = self.stable(refuting_choice, database, turned, ())
                self.returns(True, is_refuting, database, turned, (), choice)


class TestExchange(Case):

    def check(self, database, query, answer, choice, other, held):
        mixed = self.stable(exchange, database, query, answer, choice, other)
        self.assertTrue(all(record in pair for record, pair in zip(mixed, zip(choice, other))))
        self.assertEqual(len(mixed), len(choice))
        self.assertNotIn(answer, held[mixed])
        self.assertLessEqual(set(held[mixed]), set(held[choice]))
        return mixed

    def test_the_example(self):
        held = oracle.answers_by_choice(QP, E)
        mixed = self.check(E, QP, ('ann',), choice_at(E, 0), choice_at(E, 2), held)
        self.assertEqual(mixed, choice_at(E, 2))
        # The choices differ in bob too, and bob keeps his record or gets the other one.
        self.check(E, QP, ('ann',), choice_at(E, 0), choice_at(E, 3), held)
        self.returns(choice_at(E, 3), exchange, E, QP, ('ann',), choice_at(E, 3), choice_at(E, 3))

    def test_against_the_definition(self):
        mixtures = 0
        for schema, (_, atoms), database in INPUTS + oracle.cyclic_inputs(54, 200):
            query = (unattacked_variables(schema, ((), atoms))[:2], atoms)
            held = oracle.answers_by_choice(query, database)
            choices = list(held)[:8] + list(held)[-4:]
            for answer in oracle.domains(schema, query):
                if any(answer in some for some in held.values()):
                    for choice, other in itertools.product(choices, repeat=2):
                        if answer not in held[other]:
                            mixed = self.check(database, query, answer, choice, other, held)
                            mixtures += mixed not in (choice, other)
        self.assertGreater(mixtures, 20)

    def test_queries_with_a_cycle(self):
        schema = tuple((name, 2, ('name',) * 3) for name in ('left', 'right'))
        query = (('Z',), (('left', ('Z', 'X', 'Y')), ('right', ('Z', 'Y', 'X'))))
        self.assertTrue(oracle.cycles(query, oracle.edges(schema, query)))
        self.returns(('Z',), unattacked_variables, schema, ((), query[1]))
        pick = random.Random(55)
        mixtures = 0
        for _ in range(25):
            rows = [sorted({(pick.choice('ab'), pick.choice('uv'), pick.choice('uv')) for _ in range(6)}) for _ in 'lr']
            database = (schema, tuple(map(tuple, rows)))
            held = oracle.answers_by_choice(query, database)
            for answer in (('a',), ('b',)):
                for choice, other in itertools.product(list(held)[:16], list(held)[-16:]):
                    if answer in held[choice] and answer not in held[other]:
                        mixed = self.check(database, query, answer, choice, other, held)
                        mixtures += mixed != other
        self.assertGreater(mixtures, 50)
        both = (U, ((('u', 'v'), ('u', 'w')), (('v', 'u'),)))
        held = oracle.answers_by_choice(W, both)
        self.check(both, W, (), choice_at(both, 0), choice_at(both, 1), held)

    def test_twenty_conflicting_groups(self):
        letters = 'abcdefghijklmnopqrst'
        database = ((('keyed', 1, ('name', 'number')),),
                    (tuple((letter, at) for letter in letters for at in (0, 1)),))
        zeros, ones = (tuple((letter, at) for letter in letters) for at in (0, 1))
        self.returns(zeros, exchange, database, ((), (('keyed', ('K', 1)),)), (), ones, zeros)
        mixed = self.stable(exchange, database, (('K',), (('keyed', ('K', 1)),)), ('g',), ones, zeros)
        self.assertIn(('g', 0), mixed)

    def test_the_empty_database(self):
        self.returns((), exchange, EMPTY, QP, ('ann',), (), ())


class TestErrors(Case):

    def test_the_order_of_the_errors(self):
        first, last = choice_at(E, 0), choice_at(E, 2)
        for database in list(broken(D)) + list(STRANGE):
            self.fails(InvalidDatabase('why'), is_refuting, database, None, None, None)
            self.fails(InvalidDatabase('why'), refuting_choice, database, W, [])
            self.fails(InvalidDatabase('why'), exchange, database, None, None, None, None)
            self.fails(InvalidDatabase('why'), exchange, database, QP, ('ann',), first, last)
        for query in list(broken(Q)) + list(STRANGE) + [W]:
            self.fails(InvalidQuery('why'), is_refuting, D, query, None, None)
            self.fails(InvalidQuery('why'), refuting_choice, D, query, ('ann', 'gaul'))
            self.fails(InvalidQuery('why'), exchange, E, query, None, None, None)
        for query in broken(QP):
            self.fails(InvalidQuery('why'), exchange, E, query, ('ann',), first, last)
        for answer in list(broken(('ann', 'gaul'))) + [(), ('ann',), ('ann', 1), ['ann', 'gaul']]:
            self.fails(InvalidAnswer('why'), is_refuting, D, Q, answer, None)
            self.fails(InvalidAnswer('why'), refuting_choice, D, Q, answer)
        for answer in list(broken(('ann',))) + [(), ('ann', 'ann'), (1,), ['ann']]:
            self.fails(InvalidAnswer('why'), exchange, E, QP, answer, first, last)
            self.fails(InvalidAnswer('why'), exchange, E, QP, answer, None, None)

    def test_attacked_head_variables(self):
        first, last = choice_at(E, 0), choice_at(E, 2)
        for head in (('T',), ('C',), ('P', 'C'), ('P', 'T'), ('T', 'C', 'P')):
            self.fails(InvalidQuery('why'), exchange, E, (head, Q[1]), None, None, None)
            self.fails(InvalidQuery('why'), exchange, E, (head, Q[1]), ('ann',) * len(head), first, last)
        both = (U, ((('u', 'v'), ('u', 'w')), (('v', 'u'),)))
        for head in (('X',), ('Y',), ('X', 'Y')):
            self.fails(InvalidQuery('why'), exchange, both, (head, W[1]), [], first, last)

    def test_invalid_choices(self):
        first, last = choice_at(E, 0), choice_at(E, 2)
        for value in list(broken(first)) + list(STRANGE) + [first[1:], first[::-1], choice_at(D, 0)]:
            self.fails(InvalidChoice('why'), exchange, E, QP, ('ann',), value, last)
            self.fails(InvalidChoice('why'), exchange, E, QP, ('ann',), first, value)
            self.fails(InvalidChoice('why'), exchange, E, QP, ('ann',), value, None)
        # The answer holds in the other choice.
        for other in (first, choice_at(E, 1)):
            self.fails(InvalidChoice('why'), exchange, E, QP, ('ann',), last, other)
            self.fails(InvalidChoice('why'), exchange, E, QP, ('ann',), first, other)
        query = (('X',), (('pay', ('X', 1, 'P')),))
        bob, ann = choice_at(M, 0), choice_at(M, 3)
        self.returns(bob, exchange, M, query, (1,), ann[:4] + bob[4:], bob)
        self.fails(InvalidChoice('why'), exchange, M, query, (1,), bob, ann)
        for value in broken(bob):
            self.fails(InvalidChoice('why'), exchange, M, query, (1,), ann, value)
            self.fails(InvalidChoice('why'), exchange, M, query, (1,), value, bob)

    def test_cycles(self):
        database = (U, ((('u', 'v'),), (('v', 'u'),)))
        with self.assertRaises(CyclicQuery) as caught:
            refuting_choice(database, W, ())
        self.assertIn(caught.exception.cycle, ((0, 1), (1, 0)))
        self.fails(InvalidAnswer('why'), refuting_choice, database, W, ('u',))
        self.returns(False, is_refuting, database, W, (), choice_at(database, 0))
