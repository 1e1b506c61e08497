"""Decisions (9.2), and the main guarantee as far as it speaks of them (0.8)."""

from rightrecord.certain.exchanges import is_refuting
from rightrecord.certain.trees import is_certain_tree
from rightrecord.certain.verdicts import certain_answers, classify, decide, is_decision, open_answers
from rightrecord.data.choices import choice_at
from rightrecord.errors import InvalidAnswer, InvalidDatabase, InvalidQuery, TooMany
from rightrecord.query.matching import is_witness
from tests import oracle, rings
from tests.support import D, M, S, STRANGE, Case, broken

Q = (('P', 'C'), (('job', ('P', 'T')), ('city', ('T', 'C'))))
W = (('left', 1, ('name', 'name')), ('right', 1, ('name', 'name')))
EMPTY = (S, ((), ()))
A, B = ('a',), ('b',)
INPUTS = [each for each in oracle.random_inputs(71, 400) + oracle.cyclic_inputs(72, 700)
          if len(oracle.choices(each[2])) <= 64]


class Decisions(Case):

    def check(self, database, query, answer, word):
        """The decision is the one of the kind that is expected, and its parts are accepted one by one."""
        decision = self.stable(decide, database, query, answer)
        self.assertEqual(decision[0], word, (database, query, answer))
        self.returns(word, classify, database, query, answer)
        self.returns(True, is_decision, database, query, answer, decision)
        self.assertEqual(len(decision), {'certain': 2, 'open': 3, 'impossible': 1}[word])
        if word == 'certain':
            self.returns(True, is_certain_tree, database, query, answer, decision[1])
        if word == 'open':
            self.returns(True, is_witness, database, query, answer, decision[1])
            self.returns(True, is_refuting, database, query, answer, decision[2])
        return decision


class TestDecide(Decisions):

    def test_samples(self):
        self.check(D, Q, ('ann', 'gaul'), 'certain')
        for answer in (('bob', 'gaul'), ('bob', 'eire')):
            self.check(D, Q, answer, 'open')
        for answer in (('eve', 'gaul'), ('ann', 'eire')):
            self.check(D, Q, answer, 'impossible')
            self.returns(('impossible',), decide, D, Q, answer)
        self.check(D, ((), Q[1]), (), 'certain')
        self.check(EMPTY, ((), Q[1]), (), 'impossible')
        self.check(EMPTY, Q, ('ann', 'gaul'), 'impossible')
        self.returns((('ann', 'gaul'),), certain_answers, D, Q)
        self.returns((('bob', 'eire'), ('bob', 'gaul')), open_answers, D, Q)
        for function in (certain_answers, open_answers):
            self.returns((), function, EMPTY, Q)
            self.returns((), function, EMPTY, ((), Q[1]))

    def test_against_all_choices(self):
        counts = {}
        for schema, query, database in INPUTS:
            cyclic = bool(oracle.cycles(query, oracle.edges(schema, query)))
            found = oracle.classes(schema, query, database)
            for answer, word in found.items():
                decision = self.check(database, query, answer, word)
                if word == 'certain':
                    self.assertTrue(oracle.is_tree(database, query, answer, decision[1]))
                    free = any(not oracle.conflicts(database, query, witness) for other, witness in
                               oracle.matches(query, oracle.all_rows(database)) if other == answer)
                    word = 'by a free witness' if free else 'by components'
                counts[cyclic, word] = counts.get((cyclic, word), 0) + 1
            for function, word in ((certain_answers, 'certain'), (open_answers, 'open')):
                expected = tuple(answer for answer in sorted(found) if found[answer] == word)
                self.returns(expected, function, database, query)
        for cyclic in (True, False):
            for word in ('by a free witness', 'by components', 'open', 'impossible'):
                self.assertGreater(counts[cyclic, word], 5, counts)

    def test_more_conflicts_in_queries_with_a_cycle(self):
        """Certain answers without a witness that is free of conflicts, by small components."""
        certain = 0
        for count, tag in ((2, 'a'), (3, 'b'), (4, 'c')):
            for rows in (rings.ring(tag, count), rings.path(tag, count)):
                database = rings.ring_database(rows)
                held = oracle.answers_by_choice(rings.CYCLIC, database).values()
                word = 'certain' if all((tag,) in some for some in held) else 'open'
                self.check(database, rings.CYCLIC, (tag,), word)
                certain += word == 'certain'
        self.assertEqual(certain, 3)
        both = rings.ring_database(rings.ring('a', 3), rings.path('b', 3))
        query = ((), tuple((name, ('W' + terms[0],) + terms[1:]) for name, terms in rings.CYCLIC[1]))
        self.check(both, query, (), 'certain')
        self.returns((B,), certain_answers, both, rings.CYCLIC)
        self.returns((A,), open_answers, both, rings.CYCLIC)
        two = rings.ring_database(rings.ring('a', 2), rings.ring('b', 3))
        # It fails in each component, so in all of them together.
        self.check(two, query, (), 'open')

    def test_twenty_conflicting_groups(self):
        letters = 'abcdefghijklmnopqrst'
        database = ((('keyed', 1, ('name', 'number')),),
                    (tuple((letter, at) for letter in letters for at in (0, 1)),))
        self.check(database, ((), (('keyed', ('K', 'X')),)), (), 'certain')
        self.check(database, ((), (('keyed', ('K', 1)),)), (), 'open')
        self.check(database, (('X',), (('keyed', ('K', 'X')),)), (0,), 'open')
        self.returns(tuple((letter,) for letter in letters), certain_answers, database,
                     (('K',), (('keyed', ('K', 'X')),)))
        self.returns(((0,), (1,)), open_answers, database, (('X',), (('keyed', ('K', 'X')),)))


class TestLimits(Decisions):

    def test_exactly_as_many_choices_as_allowed(self):
        self.check(rings.EXACT, rings.CYCLIC, A, 'open')
        self.check(rings.EXACT_PATH, rings.CYCLIC, A, 'certain')
        self.returns((A,), open_answers, rings.EXACT, rings.CYCLIC)
        self.returns((A,), certain_answers, rings.EXACT_PATH, rings.CYCLIC)
        six = tuple(('a', 'x', 'y' + letter) for letter in 'abcdef')
        right = [(('a', 'y' + letter, 'x'), ('a', 'y' + letter, 'z')) for letter in 'abcdef']
        database = (rings.LEFT_RIGHT, (six, sum(right, ())))
        self.check(database, rings.CYCLIC, A, 'open')

    def test_too_many(self):
        for database in (rings.LARGER, rings.LARGE, rings.LARGE_PATH, rings.ONE_LARGE, rings.ONE_SURE):
            for function in (decide, classify):
                self.fails(TooMany(4096), function, database, rings.CYCLIC, A)
            for function in (certain_answers, open_answers):
                self.fails(TooMany(4096), function, database, rings.CYCLIC)
            # Without a cycle neither groups nor choices are an obstacle.
            self.check(database, rings.ACYCLIC, A, 'certain')
            self.assertIn(A, certain_answers(database, rings.ACYCLIC))
            self.returns((), open_answers, database, rings.ACYCLIC)

    def test_for_one_answer_alone(self):
        self.check(rings.ONE_LARGE, rings.CYCLIC, B, 'certain')
        for database in (rings.LARGE, rings.ONE_LARGE, rings.ONE_SURE):
            self.check(database, rings.CYCLIC, ('c',), 'impossible')

    def test_beside_what_would_decide_it(self):
        """A witness without conflicts, and a small certain component, beside one that is too large."""
        self.fails(TooMany(4096), decide, rings.ONE_SURE, rings.CYCLIC, A)
        database = rings.ring_database(rings.ring('a', 7), ([('a', 'x', 'y'), ('a', 'x', 'z')],
                                                            [('a', 'y', 'x'), ('a', 'z', 'x')]))
        self.fails(TooMany(4096), decide, database, rings.CYCLIC, A)
        free = rings.ring_database(rings.ring('a', 6), ([('a', 'v', 'w')], [('a', 'w', 'v')]))
        self.check(free, rings.CYCLIC, A, 'certain')

    def test_is_decision_has_no_limit(self):
        leaf = ('leaf', (('a', 'v', 'w'), ('a', 'w', 'v')))
        self.returns(True, is_decision, rings.ONE_SURE, rings.CYCLIC, A, ('certain', leaf))
        self.returns(False, is_decision, rings.ONE_SURE, rings.CYCLIC, A, ('impossible',))
        witness = (('a', 'xa', 'ya'), ('a', 'ya', 'xa'))
        first, last = choice_at(rings.LARGE, 0), choice_at(rings.LARGE, 2 ** 14 - 1)
        for choice in (first, last):
            expected = is_refuting(rings.LARGE, rings.CYCLIC, A, choice)
            self.returns(expected, is_decision, rings.LARGE, rings.CYCLIC, A, ('open', witness, choice))
        self.returns(False, is_decision, rings.LARGE, rings.CYCLIC, A, ('certain', leaf))
        self.returns(True, is_decision, rings.LARGE, rings.CYCLIC, ('c',), ('impossible',))


class TestIsDecision(Decisions):

    def test_any_value(self):
        for answer in (('ann', 'gaul'), ('bob', 'gaul'), ('eve', 'gaul')):
            decision = decide(D, Q, answer)
            for value in list(broken(decision)) + list(STRANGE) + [decision[:-1], decision + (None,), decision[::-1][1:],
                                                                  decision[1:], decision + decision, ('impossible', ()),
                                                                  ('certain',), ('open',), ('certain', None),
                                                                  ('open', None, None), ({}, []), ([],)]:
                self.returns(False, is_decision, D, Q, answer, value)
        query = (('X',), (('rate', ('X',)),))
        for answer in ((0,), (1,)):
            decision = decide(M, query, answer)
            self.assertEqual(decision[0], 'open')
            for value in broken(decision):
                self.returns(False, is_decision, M, query, answer, value)

    def test_decisions_of_other_answers(self):
        words = set()
        for schema, query, database in INPUTS[::3]:
            answers = oracle.domains(schema, query)[:5]
            held = oracle.answers_by_choice(query, database)
            rows = oracle.all_rows(database)
            for other in answers:
                decision = decide(database, query, other)
                for answer in answers:
                    if decision[0] == 'impossible':
                        expected = answer not in oracle.answers(oracle.matches(query, rows))
                    elif decision[0] == 'open':
                        expected = (answer, decision[1]) in oracle.matches(query, rows) \
                            and answer not in held[decision[2]]
                    else:
                        expected = oracle.is_tree(database, query, answer, decision[1])
                    self.returns(expected, is_decision, database, query, answer, decision)
                    words.add((decision[0], expected, answer == other))
        self.assertGreaterEqual(len(words), 7)

    def test_every_witness_with_every_choice(self):
        query = ((), Q[1])
        database = (S, (D[1][0][:2], D[1][1]))
        for _, witness in oracle.matches(query, oracle.all_rows(database)):
            for choice, held in oracle.answers_by_choice(query, database).items():
                self.returns(() not in held, is_decision, database, query, (), ('open', witness, choice))
        choices = oracle.choices(database)
        self.returns(False, is_decision, database, query, (), ('open', (('ann', 'nice'), ('nice', 'gaul')), choices[2]))


class TestErrors(Case):

    def test_the_order_of_the_errors(self):
        for database in list(broken(D)) + list(STRANGE):
            for function in (decide, classify):
                self.fails(InvalidDatabase('why'), function, database, Q, ('ann', 'gaul'))
                self.fails(InvalidDatabase('why'), function, database, None, [])
            self.fails(InvalidDatabase('why'), is_decision, database, None, [], None)
            for function in (certain_answers, open_answers):
                self.fails(InvalidDatabase('why'), function, database, Q)
                self.fails(InvalidDatabase('why'), function, database, {})
        for query in list(broken(Q)) + list(STRANGE):
            for function in (decide, classify):
                self.fails(InvalidQuery('why'), function, D, query, ('ann', 'gaul'))
                self.fails(InvalidQuery('why'), function, D, query, {})
            self.fails(InvalidQuery('why'), is_decision, D, query, None, ('impossible',))
            for function in (certain_answers, open_answers):
                self.fails(InvalidQuery('why'), function, D, query)
        for answer in list(broken(('ann', 'gaul'))) + [(), ('ann',), ('ann', 1), ['ann', 'gaul']]:
            for function in (decide, classify):
                self.fails(InvalidAnswer('why'), function, D, Q, answer)
            self.fails(InvalidAnswer('why'), is_decision, D, Q, answer, ('impossible',))

    def test_too_many_only_where_all_arguments_are_valid(self):
        for function in (decide, classify):
            self.fails(InvalidAnswer('why'), function, rings.LARGE, rings.CYCLIC, ['a'])
            self.fails(InvalidAnswer('why'), function, rings.LARGE, rings.CYCLIC, (1,))
            self.fails(InvalidQuery('why'), function, rings.LARGE, rings.CYCLIC + ((),), A)
            self.fails(InvalidQuery('why'), function, (W, ((), ())), rings.CYCLIC, A)
