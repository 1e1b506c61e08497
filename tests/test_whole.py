"""The whole program: parameters (0.5), the first error (0.6, 0.11), and the main guarantee (0.8)."""

import importlib
import inspect
import random

from rightrecord.certain.verdicts import certain_answers, decide, is_decision, open_answers
from rightrecord.data.choices import choice_at
from rightrecord.desk.desk import Desk
from rightrecord.desk.replicas import Replica
from rightrecord.errors import (InvalidAnswer, InvalidChoice, InvalidClaims, InvalidDatabase, InvalidFormula,
                                InvalidNumber,
                                InvalidPlan, InvalidPolicy, InvalidQuery, InvalidReport, InvalidSchema,
                                InvalidSettlement,
                                InvalidWeights, ParseError, TooMany, UnknownGroup, UnknownName)
from rightrecord.formula.compiler import certain_by_formula
from rightrecord.measure.shares import answer_share, answer_shares, choice_share, expected_answers
from rightrecord.query.matching import answers_in, holds_in, is_witness, possible_answers
from rightrecord.settle.influence import find_contrast
from rightrecord.settle.least import find_guard, least_plan
from rightrecord.sources.policies import claimed_database
from rightrecord.text.shell import Shell
from tests import oracle
from tests.claim_oracle import drawn_policy
from tests.desk_oracle import Drawer
from tests.settle_oracle import ask
from tests.support import D, M, N, S, STRANGE, Case, broken
from tests.test_claims import K
from tests.test_interface import CLASSES, INTERFACE
from tests.test_reports import R

Q = (('P', 'C'), (('job', ('P', 'T')), ('city', ('T', 'C'))))
BOB = ('job', ('bob',))
GAUL = ('bob', 'gaul')
LYON = ('job', ('bob',), (('bob', 'lyon'),))
PLAN = ask(D, BOB, (('stop',), ('stop',)))
# A valid argument for each parameter, and the error of an invalid one; a function takes it and the value.
VALID = {'schema': S, 'database': D, 'query': Q, 'answer': GAUL, 'table': 'job', 'key': ('bob',),
         'choice': choice_at(D, 0),
         'other': choice_at(D, 1), 'record': ('bob', 'lyon'), 'index': 0, 'variable': 'T', 'formula': ('true',),
         'binding': {}, 'claims': K, 'report': R, 'settlements': (LYON,), 'settlement': LYON, 'pattern': Q[1][0],
         'plan': PLAN, 'cost': 1, 'policy': ('all',), 'weights': None, 'head': ('P',), 'number': 0, 'records': (),
         'step': 0, 'value': None, 'text': 'all', 'column': 0}
ERRORS = {'schema': InvalidSchema, 'database': InvalidDatabase, 'query': InvalidQuery, 'answer': InvalidAnswer,
          'choice': InvalidChoice, 'other': InvalidChoice, 'formula': InvalidFormula, 'claims': InvalidClaims,
          'report': InvalidReport, 'settlements': InvalidSettlement, 'settlement': InvalidSettlement,
          'pattern': InvalidQuery, 'plan': InvalidPlan, 'policy': InvalidPolicy, 'weights': InvalidWeights,
          'head': InvalidQuery, 'table': UnknownName, 'index': InvalidNumber, 'cost': InvalidNumber,
          'step': InvalidNumber, 'number': InvalidNumber, 'text': ParseError, 'key': UnknownGroup}
NAMED = (UnknownName, InvalidNumber)
JUNK = (None, True, -7, 'No Name', [], {}, ([],), ((True,),), {'a': []})


def functions():
    """Yield each function of the interface with the names of its parameters."""
    for file, texts in INTERFACE.items():
        module = importlib.import_module('rightrecord.' + file)
        for text in texts:
            function = getattr(module, text.partition('(')[0])
            yield function, list(inspect.signature(function).parameters.values())


def call_with(function, parameters, values):
    named = {own.name: value for own, value in zip(parameters, values) if own.kind == own.KEYWORD_ONLY}
    return function(*values[:len(values) - len(named)], **named)


class TestErrors(Case):

    def test_the_first_invalid_argument(self):
        """Whatever the arguments behind it are, its error is raised."""
        pick = random.Random(201)
        checked = 0
        for function, parameters in functions():
            for at, own in enumerate(parameters):
                # The head variables of Q are attacked, so for `exchange` it is no query.
                if own.name not in ERRORS or function.__name__ == 'exchange' and at > 1:
                    break
                for bad in JUNK:
                    if own.name == 'weights' and bad is None:
                        continue
                    for _ in range(2):
                        values = [VALID[name.name] for name in parameters[:at]] + [bad]
                        values += [pick.choice(JUNK) for _ in parameters[at + 1:]]
                        self.check(function, parameters, values, self.error_of(own.name, bad))
                        checked += 1
        self.assertGreater(checked, 2000)

    def error_of(self, name, bad):
        kind = ERRORS[name]
        if kind is UnknownGroup:
            return kind(('job', bad))
        return kind(bad) if kind in NAMED else kind('why')

    def check(self, function, parameters, values, error):
        try:
            result = call_with(function, parameters, values)
        except Exception as caught:
            self.assertIs(type(caught), type(error), (function.__name__, values))
            self.assertEqual(repr(vars(caught)), repr(vars(error)))
            return
        self.fail((function.__name__, values, result))

    def test_invalid_schemas_and_databases(self):
        for function, parameters in functions():
            name = parameters[0].name
            if name in ('schema', 'database'):
                for bad in list(broken(VALID[name])) + list(STRANGE):
                    self.check(function, parameters, [bad] + [None] * (len(parameters) - 1), ERRORS[name]('why'))

    def test_schemas_where_databases_are_asked_for(self):
        for function, parameters in functions():
            name = parameters[0].name
            if name in ('schema', 'database'):
                for bad in (D, (S, ()), (S,),
                            D[1]) if name == 'schema' else (S, (S, D[1][0]), (D, D[1]), (N, D[1]), D + ((),)):
                    self.check(function, parameters, [bad] + [VALID[own.name] for own in parameters[1:]],
                               ERRORS[name]('why'))


def package_values():
    """Return values of every kind that the package knows or returns."""
    desk = Desk(S, claims=K)
    desk.watch('home', Q)
    replica = Replica(S)
    replica.make_claim(*K[0])
    shell = Shell()
    shell.run('schema city/1(name,name) job/1(name,name)')
    return [S, N, D, M, Q, R, K, K[0], GAUL, PLAN, LYON, (LYON,), choice_at(D, 0), find_contrast(D, Q, GAUL, *BOB),
            least_plan(D, Q, GAUL),
            find_guard(D, Q, GAUL), decide(D, Q, GAUL), decide(D, Q, ('ann', 'gaul')), decide(D, Q, ('ann', 'gaul'))[1],
            ('impossible',), ('true',), ('chain', (('all',), ('votes',))), ('all',),
            ('exists', ('T',), 'job', ('P', 'T'), ('true',)),
            answer_shares(D, Q), desk, desk.watched(), desk.classes('home'), desk.log(), replica, replica.message(),
            replica.desk(),
            shell, shell.desk(), (desk,), (desk, desk), [desk], ('ask', desk, replica, shell), ('stop', desk),
            (replica, (desk,)),
            ('leaf', desk), (('job', desk, 'eve'),), ('job', (shell,), replica), (('query', desk),), (desk,) * 3,
            (desk,) * 4,
            ((desk,), (desk,)), ('claim', desk), 'home', 7, -7, 10 ** 40 - 1, 'a' * 40, (1, 'ann')]


class TestAnyValue(Case):

    def test_is_and_are(self):
        """Each such function returns True or False for any value, and True for values of its own kind."""
        values = package_values() + list(STRANGE) + list(broken(PLAN)) + list(broken(R))
        accepted = {}
        for function, parameters in functions():
            if function.__name__.startswith(('is_', 'are_')):
                first = [VALID[own.name] for own in parameters[:-1]]
                self.assertEqual(parameters[-1].name, 'value')
                for value in values:
                    result = function(*first, value)
                    self.assertIs(type(result), bool, (function.__name__, value))
                    accepted[function.__name__] = accepted.get(function.__name__, 0) + result
        self.assertEqual(len(accepted), 26)
        for name in accepted:
            if name not in ('is_attack_path', 'is_certain_tree', 'is_cycle', 'is_pattern', 'is_variable', 'is_weights',
                            'is_witness'):
                self.assertGreater(accepted[name], 0, name)


class TestParameters(Case):

    def test_by_keyword_only(self):
        weights = ((1, 1, 1), (1, 1, 1, 3))
        for function, arguments, name, default, other in (
                (choice_share, (D, choice_at(D, 0)), 'weights', None, weights),
                (answer_share, (D, Q, GAUL), 'weights', None, weights),
                (answer_shares, (D, Q), 'weights', None, weights), (expected_answers, (D, Q), 'weights', None, weights),
                (claimed_database, (S, K), 'policy', ('all',), ('votes',)),
                (Desk, (S,), 'policy', ('all',), ('votes',)),
                (Desk, (S,), 'claims', (), K), (Desk, (S,), 'settlements', (), (LYON,)),
                (Replica, (S,), 'policy', ('all',), ('votes',))):
            with self.assertRaises(TypeError):
                function(*arguments, other)
            self.assertTrue(function(*arguments) == function(*arguments, **{name: default}))
        named = {'settlements': (LYON,), 'claims': K, 'policy': ('votes',)}
        self.assertTrue(Desk(S, **named) == Desk(S, **dict(reversed(list(named.items())))))
        one = Desk(S, claims=K, settlements=(LYON,), policy=('votes',))
        self.assertTrue(one == Desk(S, **named))
        # Every parameter behind a star, of all functions and classes, is in this test.
        starred = [text for texts in list(INTERFACE.values()) + list(CLASSES.values()) for text in texts if '*' in text]
        self.assertEqual(len(starred), 7)

    def test_parameters_before_the_star_by_position(self):
        for function, parameters in functions():
            kinds = [own.kind for own in parameters]
            self.assertEqual(kinds, sorted(kinds))
            for own in parameters:
                self.assertEqual(own.default is own.empty, own.kind != own.KEYWORD_ONLY)


class TestGuarantee(Case):

    def test_whatever_is_right(self):
        """From claims to the answers of a desk: what is reported holds, whatever record of each group is right."""
        pick = random.Random(202)
        seen = {}
        for _ in range(150):
            drawer = Drawer(pick)
            desk = Desk(drawer.schema, policy=drawn_policy(pick))
            for _ in range(12):
                try:
                    desk.apply(('claim', drawer.claim()) if pick.random() < 0.7 else ('settle', drawer.settlement()))
                except Exception as error:
                    self.assertIn(type(error).__name__, ('InvalidOperation', 'TooMany'))
            database = desk.database()
            choices = oracle.choices(database)
            if len(choices) > 100:
                continue
            for name, query in zip('abcd', drawer.queries):
                desk.watch(name, query)
                held = [answers_in(database, query, choice) for choice in choices]
                classes = desk.classes(name)
                self.assertEqual(tuple(classes), possible_answers(database, query))
                for answer, kind in classes.items():
                    self.assertEqual([answer in some for some in held].count(True) == len(held), kind == 'certain')
                    decision = desk.decide(name, answer)
                    self.assertEqual(decision[0], kind)
                    self.assertTrue(is_decision(database, query, answer, decision))
                    if kind == 'open':
                        self.assertTrue(is_witness(database, query, answer, decision[1]))
                        self.assertFalse(holds_in(database, query, answer, decision[2]))
                    seen[kind] = seen.get(kind, 0) + 1
                certain = tuple(answer for answer in classes if classes[answer] == 'certain')
                self.assertEqual(certain_answers(database, query), certain)
                self.assertEqual(open_answers(database, query),
                                 tuple(answer for answer in classes if answer not in certain))
                if not oracle.cycles(query, oracle.edges(drawer.schema, query)):
                    self.assertEqual(certain_by_formula(database, query), certain)
        self.assertGreater(min(seen.values()), 50, seen)
        self.assertEqual(set(seen), {'certain', 'open'})

    def test_settlements_by_anyone_in_any_order(self):
        """Desks, replicas and one replica's desk agree, whoever settles which groups, in which order and how often."""
        pick = random.Random(203)
        for _ in range(40):
            drawer = Drawer(pick)
            claims = [drawer.claim() for _ in range(6)]
            settlements = [drawer.settlement() for _ in range(4)]
            replicas = [Replica(drawer.schema) for _ in range(3)]
            try:
                for claim in claims:
                    pick.choice(replicas).make_claim(*claim)
                for settlement in settlements * 2:
                    pick.choice(replicas).make_settlement(*settlement)
                for one in replicas + replicas:
                    for other in replicas:
                        one.receive(other.missing(one.message()))
            except TooMany:
                continue
            desk = Desk(drawer.schema, claims=tuple(sorted(set(claims))))
            for settlement in pick.sample(settlements, 4):
                if settlement not in desk.settlements():
                    desk.settle(*settlement)
            for replica in replicas:
                self.assertTrue(replica == replicas[0])
                self.assertTrue(replica.desk() == desk)
                self.assertEqual(replica.database(), desk.database())
