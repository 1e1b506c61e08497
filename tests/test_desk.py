"""A desk (16.1 to 16.4)."""

import copy
import random

from rightrecord.certain.verdicts import classify, is_decision
from rightrecord.data.databases import is_database
from rightrecord.desk.desk import MAX_WATCHED, Desk
from rightrecord.errors import (InvalidAnswer, InvalidClaims, InvalidOperation, InvalidPolicy, InvalidQuery,
                                InvalidSchema, InvalidSettlement, TooMany, UnknownName)
from rightrecord.query.matching import possible_answers
from rightrecord.sources.policies import claimed_database
from tests import rings
from tests.desk_oracle import Book, Drawer, is_small
from tests.support import N, S, STRANGE, Case, broken
from tests.test_claims import K, many
from tests.test_settlements import many as many_settlements

Q = (('P', 'C'), (('job', ('P', 'T')), ('city', ('T', 'C'))))
O = tuple(('claim', claim) for claim in K) + (('watch', ('home', Q)),)
LYON = ('job', ('ann',), (('ann', 'lyon'),))
NICE = ('job', ('ann',), (('ann', 'nice'),))
RATE = ('rate', (0,), 'tom')
EMPTY = (S, ((), ()))


def all_of(desk):
    """Return everything that a desk shows."""
    return (desk.schema(), desk.claims(), desk.settlements(), desk.policy(), desk.database(), desk.watched(),
            desk.disputed(), desk.log(), len(desk), str(desk), [(name, desk.classes(name)) for name in desk.watched()])


def ring_desk(database, names=('home',)):
    """Return a desk that has the records of a ring as claims, and watches the query with a cycle."""
    claims = tuple((table[0], record, 'eve') for table, rows in zip(*database) for record in rows)
    desk = Desk(rings.LEFT_RIGHT, claims=claims)
    for name in names:
        desk.apply_all((('watch', (name, rings.CYCLIC)),))
    return desk


class Desks(Case):

    def show(self, desk):
        return all_of(desk)

    def refused(self, error, desk, method, *arguments):
        """The call raises the error, twice, and changes nothing; what could be undone still can be."""
        before = copy.deepcopy(desk)
        facts = (desk.schema(), desk.claims(), desk.settlements(), desk.policy(), desk.watched(), desk.log())
        self.fails(error, getattr(desk, method), *arguments)
        self.assertEqual(repr((desk.schema(), desk.claims(), desk.settlements(), desk.policy(), desk.watched(),
                               desk.log())), repr(facts))
        self.assertTrue(desk == before)
        self.assertEqual(vars(desk)['_done'], vars(before)['_done'])


class TestState(Desks):

    def test_the_first_state(self):
        desk = Desk(S)
        self.assertEqual(self.show(desk), (S, (), (), ('all',), EMPTY, {}, (), (), 0,
                                           'desk with 0 claims, 0 settlements', []))
        full = Desk(S, policy=('votes',), claims=K, settlements=(LYON, NICE))
        self.assertEqual((full.claims(), full.settlements(), full.policy(), full.watched(), full.log(), len(full),
                          str(full)),
                         (K, (LYON, NICE), ('votes',), {}, (), 5, 'desk with 5 claims, 2 settlements'))
        self.assertEqual(full.disputed(), (('job', ('ann',)),))
        self.assertEqual(full.database(), claimed_database(S, K))
        for one in (desk, full):
            self.refused(InvalidOperation('why'), one, 'undo')
        self.assertEqual(Desk(S, claims=K, settlements=(LYON,)).database()[1][1], (('ann', 'lyon'), ('bob', 'lyon')))
        self.assertEqual(MAX_WATCHED, 6)

    def test_a_settlement_of_claims_that_do_not_count(self):
        """The records of a group are those of the counting claims."""
        desk = Desk(S, policy=('ranks', ('eve',)), claims=K, settlements=(NICE,))
        self.assertEqual((desk.disputed(), desk.database()[1][1]),
                         ((('job', ('ann',)),), (('ann', 'lyon'), ('bob', 'lyon'))))
        desk.set_policy(('all',))
        self.assertEqual((desk.disputed(), desk.database()[1][1]), ((), (('ann', 'nice'), ('bob', 'lyon'))))

    def test_text_and_length(self):
        desk = Desk(S, claims=K[:1], settlements=(LYON,))
        self.assertEqual((len(desk), str(desk)), (1, 'desk with 1 claims, 1 settlements'))
        # Settlements of groups that do not exist are counted, too.
        self.assertEqual(str(Desk(S, settlements=many_settlements(60))), 'desk with 0 claims, 60 settlements')

    def test_the_errors_of_the_constructor(self):
        bad = [{}, [], None]
        for schema in list(broken(S)) + list(STRANGE):
            self.fails(InvalidSchema('why'), Desk, schema)
            self.fails(InvalidSchema('why'), Desk, schema, policy=bad, claims=bad, settlements=bad)
        for policy in ('all', ('all', ()), None, ['all'], ('ranks', ('a', 'a')), ('chain', (('all',),)), {}, True):
            self.fails(InvalidPolicy('why'), Desk, S, policy=policy, claims=bad, settlements=bad)
        for claims in list(broken(K)) + [K[::-1], K + K[:1], None, {}, K[0], many(41, 1), many(7, 1, 7), (RATE,)]:
            self.fails(InvalidClaims('why'), Desk, S, claims=claims, settlements=bad)
        for settlements in list(broken((LYON, NICE))) + [(NICE, LYON), (LYON, LYON), None, LYON, many_settlements(61)]:
            self.fails(InvalidSettlement('why'), Desk, S, claims=K, settlements=settlements)
        with self.assertRaises(TypeError):
            Desk(S, ('all',))

    def test_equality(self):
        desk = Desk(S, claims=K, settlements=(LYON,))
        self.assertTrue(desk == Desk(S, claims=K, settlements=(LYON,), policy=('all',)))
        self.assertFalse(desk != Desk(S, claims=K, settlements=(LYON,)))
        others = [Desk(S, claims=K[1:], settlements=(LYON,)), Desk(S, claims=K, settlements=()),
                  Desk(S, claims=K, settlements=(LYON,), policy=('votes',)), Desk(N)]
        watching = Desk(S, claims=K, settlements=(LYON,))
        watching.watch('home', Q)
        renamed = Desk(S, claims=K, settlements=(LYON,))
        renamed.watch('house', Q)
        for value in others + list(STRANGE) + [watching, (S, K), 'desk', Desk, object()]:
            self.assertIs(desk == value, False)
            self.assertIs(value == desk, False)
        self.assertFalse(watching == renamed)
        # Neither the log nor the order counts.
        watching.unwatch('home')
        self.assertTrue(watching == desk)
        self.assertEqual((len(watching.log()), len(desk.log())), (2, 0))
        self.assertFalse(Desk(S) == Desk(N))

    def test_what_is_returned_may_be_changed(self):
        desk = Desk(S)
        desk.apply_all(O)
        before = repr(self.show(desk))
        desk.watched().clear()
        desk.watched()['x'] = Q
        desk.classes('home').clear()
        desk.classes('home')[('ann', 'gaul')] = 'open'
        self.assertEqual(repr(self.show(desk)), before)
        self.assertEqual(repr(self.show(desk)), before)

    def test_watched_names_ascend(self):
        desk = Desk(S)
        for name in ('x', 'home', 'zz', 'a', 'm', 'town'):
            desk.watch(name, Q)
        self.assertEqual(list(desk.watched()), ['a', 'home', 'm', 'town', 'x', 'zz'])
        desk.apply_all(O[:5])
        self.assertEqual(list(desk.classes('m')), sorted(desk.classes('m')))
        news = desk.settle(*LYON)
        self.assertEqual([change[0] for change in news], ['a', 'home', 'm', 'town', 'x', 'zz'])


class TestOperations(Desks):

    def test_samples(self):
        desk = Desk(S)
        self.assertEqual(desk.apply_all(O), ())
        self.assertEqual(desk.log(), O)
        self.assertEqual(desk.settle(*LYON), (('home', ('ann', 'gaul'), 'open', 'certain'),))
        self.assertEqual(desk.claim('city', ('nice', 'gaul'), 'tom'), ())
        self.assertEqual(desk.release(*LYON), ())
        self.assertEqual(desk.withdraw('city', ('nice', 'gaul'), 'tom'),
                         (('home', ('ann', 'gaul'), 'certain', 'open'),))
        self.assertEqual(desk.withdraw('city', ('lyon', 'gaul'), 'eve'),
                         (('home', ('ann', 'gaul'), 'open', 'impossible'),
                          ('home', ('bob', 'gaul'), 'certain', 'impossible')))
        self.assertEqual(desk.claim('city', ('lyon', 'eire'), 'eve'),
                         (('home', ('ann', 'eire'), 'impossible', 'open'),
                          ('home', ('bob', 'eire'), 'impossible', 'certain')))
        self.assertEqual(desk.set_policy(('ranks', ('tom',))), (('home', ('ann', 'eire'), 'open', 'impossible'),))
        self.assertEqual(desk.set_policy(('ranks', ('tom',))), ())
        self.assertEqual(desk.log()[6:], (
            ('settle', LYON), ('claim', ('city', ('nice', 'gaul'), 'tom')), ('release', LYON),
            ('withdraw', ('city', ('nice', 'gaul'), 'tom')), ('withdraw', K[1]),
            ('claim', ('city', ('lyon', 'eire'), 'eve')),
            ('policy', ('ranks', ('tom',))), ('policy', ('ranks', ('tom',)))))
        self.assertEqual(desk.unwatch('home'), ())
        self.assertEqual(desk.log()[-1], ('unwatch', 'home'))

    def test_methods_and_apply_are_the_same(self):
        pairs = [(O[0], 'claim', K[0]), (O[3], 'claim', K[3]), (('watch', ('home', Q)), 'watch', ('home', Q)),
                 (('settle', LYON), 'settle', LYON), (('policy', ('votes',)), 'set_policy', (('votes',),)),
                 (('release', LYON), 'release', LYON), (('withdraw', K[0]), 'withdraw', K[0]),
                 (('unwatch', 'home'), 'unwatch', ('home',))]
        one, other, third = Desk(S), Desk(S), Desk(S)
        for operation, method, arguments in pairs:
            news = one.apply(operation)
            self.assertEqual(news, getattr(other, method)(*arguments))
            self.assertEqual(news, third.apply_all((operation,)))
            for desk in (other, third):
                self.assertTrue(one == desk)
                self.assertEqual(self.show(one), self.show(desk))
        for _ in pairs:
            self.assertEqual(one.undo(), other.undo())
            self.assertEqual(self.show(one), self.show(other))

    def test_histories(self):
        """After each call of a drawn history the desk shows what an own book has, and so does a new desk."""
        pick = random.Random(161)
        counts = {}
        for _ in range(150):
            drawer = Drawer(pick)
            book = Book(drawer.schema)
            desk = Desk(drawer.schema)
            start = drawer.start()
            self.assertEqual(desk.apply_all(start), book.perform(start))
            for _ in range(30):
                draw = pick.random()
                if draw < 0.15:
                    kind, expected, call, arguments = 'undo', book.undo(), desk.undo, ()
                else:
                    operations = tuple(drawer.operation(book) for _ in range(pick.randint(0, 5) if draw < 0.4 else 1))
                    kind = 'group' if draw < 0.4 else 'single'
                    expected = book.perform(operations) if operations else ()
                    call, arguments = (desk.apply_all, (operations,)) if kind == 'group' else (desk.apply, operations)
                if not is_small(book):
                    break
                if isinstance(expected, Exception):
                    self.fails(expected, call, *arguments)
                else:
                    self.assertEqual(repr(call(*arguments)), repr(expected))
                self.compare(book, desk)
                word = operations[0][0] if kind == 'single' else kind
                for key in ((kind, type(expected).__name__, expected == ()),
                            (word, type(expected).__name__, expected == ())):
                    counts[key] = counts.get(key, 0) + 1
        for key in (('undo', 'tuple', False), ('group', 'tuple', False), ('single', 'tuple', False),
                    ('group', 'InvalidOperation', False), ('single', 'InvalidOperation', False),
                    ('single', 'UnknownName', False), ('group', 'UnknownName', False), ('undo', 'tuple', True),
                    ('claim', 'tuple', False), ('withdraw', 'tuple', False), ('settle', 'tuple', False),
                    ('release', 'tuple', False), ('policy', 'tuple', False), ('undo', 'InvalidOperation', False)):
            self.assertGreater(counts.get(key, 0), 2, counts)

    def compare(self, book, desk):
        claims = tuple(sorted(book.has['claims']))
        settlements = tuple(sorted(book.has['settlements']))
        watched = {name: book.has['watched'][name] for name in sorted(book.has['watched'])}
        classes = [(name, book.classes(query)) for name, query in watched.items()]
        text = f'desk with {len(claims)} claims, {len(settlements)} settlements'
        expected = (book.schema, claims, settlements, book.has['policy'], book.database(), watched, book.disputed(),
                    book.log(), len(claims), text, classes)
        self.assertEqual(repr(self.show(desk)), repr(expected))
        other = Desk(book.schema, policy=book.has['policy'], claims=claims, settlements=settlements)
        for name in sorted(watched, reverse=True):
            other.watch(name, watched[name])
        self.assertTrue(desk == other)
        self.assertEqual(repr(self.show(desk)[:7]), repr(self.show(other)[:7]))

    def test_the_errors_of_claims(self):
        desk = Desk(S, claims=K)
        for claim in list(broken(K[2])) + [('jobs', ('ann', 'lyon'), 'eve'), ('job', ('ann',), 'eve')]:
            if type(claim) is tuple and len(claim) == 3:
                self.refused(InvalidClaims('why'), desk, 'claim', *claim)
                self.refused(InvalidClaims('why'), desk, 'withdraw', *claim)
                self.refused(InvalidClaims('why'), desk, 'apply', ('claim', claim))
                self.refused(InvalidClaims('why'), desk, 'apply_all', (('withdraw', claim),))
        self.refused(InvalidOperation('why'), desk, 'claim', *K[0])
        self.refused(InvalidOperation('why'), desk, 'withdraw', 'job', ('ann', 'lyon'), 'tom')
        self.refused(InvalidOperation('why'), desk, 'withdraw', 'job', ('eve', 'lyon'), 'eve')
        self.refused(InvalidOperation('why'), desk, 'apply', ('claim', K[0]))

    def test_the_errors_of_settlements(self):
        desk = Desk(S, claims=K, settlements=(LYON,))
        for value in list(broken(LYON)) + [('job', ('ann',), ()), ('job', ('ann',), (('bob', 'lyon'),))]:
            if type(value) is tuple and len(value) == 3:
                for method in ('settle', 'release'):
                    self.refused(InvalidSettlement('why'), desk, method, *value)
                    self.refused(InvalidSettlement('why'), desk, 'apply', (method, value))
        self.refused(InvalidOperation('why'), desk, 'settle', *LYON)
        self.refused(InvalidOperation('why'), desk, 'release', *NICE)

    def test_true_and_false_are_no_numbers(self):
        """Also where the desk has the claim or the settlement with the number."""
        settlement = ('rate', (), ((0,), (1,)))
        paid = ('pay', (1, 0, 'ann'), 'eve')
        desk = Desk(N, claims=(paid, RATE), settlements=(settlement,))
        desk.watch('x', (('X',), (('rate', ('X',)),)))
        for record in ((False,), (True,)):
            for method in ('claim', 'withdraw'):
                self.refused(InvalidClaims('why'), desk, method, 'rate', record, 'tom')
                self.refused(InvalidClaims('why'), desk, 'apply', (method, ('pay', (True, False, 'ann'), 'eve')))
        for method in ('settle', 'release'):
            for records in (((False,), (1,)), ((0,), (True,)), ((False,), (True,))):
                self.refused(InvalidSettlement('why'), desk, method, 'rate', (), records)
            self.refused(InvalidSettlement('why'), desk, method, 'pay', (True,), ((1, 0, 'ann'),))
        self.refused(InvalidQuery('why'), desk, 'watch', 'y', (('X',), (('rate', (True,)),)))
        self.refused(InvalidAnswer('why'), desk, 'decide', 'x', (False,))
        for name in (True, False, 0, 1):
            for method in ('classes', 'unwatch'):
                self.refused(UnknownName(name), desk, method, name)
            self.refused(UnknownName(name), desk, 'decide', name, (0,))

    def test_the_errors_of_policies_and_watched_queries(self):
        desk = Desk(S, claims=K)
        desk.watch('home', Q)
        for policy in list(STRANGE) + [('all', ()), ('ranks', ('a', 'a')), ('chain', (('all',),)),
                                       ('trusted', ('b', 'a'))]:
            self.refused(InvalidPolicy('why'), desk, 'set_policy', policy)
            self.refused(InvalidPolicy('why'), desk, 'apply', ('policy', policy))
        for name in ('home', 'Home', '', 'abcdefghi', 'a b', None, True, 1, ('home',), ['home'], {}, [[]]):
            self.refused(InvalidOperation('why'), desk, 'watch', name, None)
            self.refused(InvalidOperation('why'), desk, 'watch', name, Q)
            self.refused(InvalidOperation('why'), desk, 'apply', ('watch', (name, Q)))
        for query in list(broken(Q)) + list(STRANGE):
            self.refused(InvalidQuery('why'), desk, 'watch', 'town', query)
        for name in ('town', 'Home', '', None, True, 1, ('home',), ['home'], {}, [[]], Desk(S)):
            self.refused(UnknownName(name), desk, 'unwatch', name)
            self.refused(UnknownName(name), desk, 'classes', name)
            self.refused(UnknownName(name), desk, 'decide', name, None)
            self.refused(UnknownName(name), desk, 'apply', ('unwatch', name))

    def test_what_is_no_operation(self):
        desk = Desk(S, claims=K)
        desk.watch('home', Q)
        pairs = [('claim', K[0] + ((),)), ('claim', K[0][:2]), ('claim', ()), ('claim', None), ('claim', list(K[0])),
                 ('withdraw', K[0][:2]), ('settle', LYON + ((),)), ('settle', 'abc'), ('release', {}),
                 ('release', (1, 2)),
                 ('watch', ('town',)), ('watch', ('town', Q, ())), ('watch', 'ab'), ('watch', ['town', Q]),
                 ('watch', None),
                 ('undo', ()), ('Claim', K[0]), ('', K[0]), (None, K[0]), (True, K[0]), ([], K[0]), ({}, K[0]),
                 ('claims', K[0]), ('set_policy', ('all',)), (('claim',), K[0]), ('claim',) + K[3], ('policy',),
                 ('unwatch',), ['claim', K[3]], ('unwatch', 'home', ()), {'claim': K[3]}, (Desk(S), K[3])]
        for value in pairs + list(STRANGE):
            self.refused(InvalidOperation('why'), desk, 'apply', value)
            self.refused(InvalidOperation('why'), desk, 'apply_all', (('policy', ('votes',)), value))
        for value in [value for value in STRANGE if type(value) is not tuple] + [list(O), {O[0]: 1}, set(O), 'claim']:
            self.refused(InvalidOperation('why'), desk, 'apply_all', value)


class TestGroups(Desks):

    def test_all_or_nothing(self):
        desk = Desk(S, claims=K[:1])
        desk.watch('home', Q)
        for operations, error in (
                (O[1:5] + (O[1],), InvalidOperation('why')),
                ((('unwatch', 'home'), ('unwatch', 'home')), UnknownName('home')),
                (O[1:5] + (('settle', ()),), InvalidOperation('why')),
                (O[1:3] + (('settle', (1, 2, 3)),), InvalidSettlement('')),
                ((('claim', (1, 2, 3)), ('nothing', 1)), InvalidClaims('why')), ((('nothing', 1), ('claim', (1, 2, 3))),
                                                                               InvalidOperation('why')),
                ((('policy', None), None), InvalidPolicy('')),
                ((('withdraw', K[0]), ('withdraw', K[0])), InvalidOperation(''))):
            self.refused(error, desk, 'apply_all', operations)
        # Each operation is asked in the state that the ones before it have made.
        self.assertEqual(desk.apply_all((('withdraw', K[0]), ('claim', K[0]))), ())
        self.assertEqual(desk.apply_all((('unwatch', 'home'), ('watch', ('home', Q)))), ())
        self.assertEqual(len(desk.log()), 5)

    def test_the_news_of_a_group(self):
        """The classes are compared before and after the whole group, whatever they were in between."""
        desk = Desk(S)
        desk.apply_all(O)
        group = (('settle', LYON), ('release', LYON))
        self.assertEqual(desk.apply_all(group), ())
        group = (('settle', LYON), ('withdraw', K[4]), ('claim', ('city', ('nice', 'gaul'), 'tom')))
        expected = (('home', ('ann', 'gaul'), 'open', 'certain'), ('home', ('bob', 'gaul'), 'certain', 'impossible'))
        self.assertEqual(desk.apply_all(group), expected)
        self.assertEqual(desk.undo(), tuple((name, answer, new, old) for name, answer, old, new in expected))

    def test_watched_before_and_after(self):
        desk = Desk(S)
        desk.apply_all(O)
        change = (('home', ('ann', 'gaul'), 'open', 'certain'),)
        again = (('unwatch', 'home'), ('settle', LYON), ('watch', ('home', Q)))
        self.assertEqual(desk.apply_all(again), change)
        desk.undo()
        # Another query under the name, and the query under another name, have no news.
        for query, name in (((('P',), Q[1]), 'home'), (Q, 'house')):
            self.assertEqual(desk.apply_all(again[:2] + (('watch', (name, query)),)), ())
            self.assertEqual(desk.undo(), ())
        self.assertEqual(desk.apply_all((('settle', LYON), ('unwatch', 'home'))), ())
        desk.undo()
        self.assertEqual(desk.apply_all((('settle', LYON), ('watch', ('house', Q)))), change)

    def test_the_empty_group(self):
        desk = Desk(S)
        self.assertEqual(desk.apply_all(()), ())
        self.refused(InvalidOperation('why'), desk, 'undo')
        desk.apply_all(O)
        self.assertEqual(desk.apply_all(()), ())
        self.assertEqual(desk.log(), O)
        desk.undo()
        self.assertEqual((desk.log(), desk.claims(), desk.watched()), ((), (), {}))
        large = ring_desk(rings.LARGE)
        self.assertEqual(large.apply_all(()), ())

    def test_undo(self):
        desk = Desk(S, claims=K[:2], settlements=(NICE,), policy=('votes',))
        first = self.show(desk)
        desk.apply_all(O[2:])
        second = self.show(desk)
        # Both settlements together leave no record: the group is disputed.
        self.assertEqual(desk.settle(*LYON), (('home', ('ann', 'gaul'), 'impossible', 'open'),))
        desk.set_policy(('all',))
        desk.unwatch('home')
        self.assertEqual(desk.undo(), ())
        self.assertEqual(desk.undo(), ())
        self.assertEqual(desk.undo(), (('home', ('ann', 'gaul'), 'open', 'impossible'),))
        self.assertEqual(self.show(desk), second)
        self.assertEqual(desk.undo(), ())
        self.assertEqual(self.show(desk), first)
        for _ in range(2):
            self.refused(InvalidOperation('why'), desk, 'undo')
        # What is undone is gone; what comes next stands alone.
        desk.claim(*K[3])
        self.assertEqual(desk.log(), (('claim', K[3]),))
        desk.undo()
        self.assertEqual(self.show(desk), first)


class TestLimits(Desks):

    def test_claims(self):
        desk = Desk(S, claims=many(40, 5)[:-1])
        self.assertEqual(len(desk), 199)
        desk.claim(*many(40, 5)[-1])
        self.refused(TooMany(200), desk, 'claim', 'job', ('zz', 'zz'), 'eve')
        self.refused(TooMany(200), desk, 'claim', 'job', ('aa', 'aa'), 'eve')
        self.refused(InvalidOperation('why'), desk, 'claim', *many(40, 5)[0])
        self.refused(InvalidClaims('why'), desk, 'claim', 'jobs', ('aa', 'aa'), 'eve')
        desk.withdraw(*many(40, 5)[0])
        # Forty records are still there, as the record has other sources.
        self.refused(TooMany(40), desk, 'claim', 'job', ('zz', 'zz'), 'eve')
        desk.claim('job', ('aa', 'aa'), 'eve')
        records = Desk(S, claims=many(40, 1))
        self.refused(TooMany(40), records, 'claim', 'city', ('zz', 'zz'), 'eve')
        self.refused(TooMany(40), records, 'apply', ('claim', ('city', ('zz', 'zz'), 'eve')))
        records.claim('job', ('aa', 'aa'), 'other')
        group = Desk(S, claims=many(6, 1, 6))
        self.refused(TooMany(6), group, 'claim', 'job', ('aa', 'zz'), 'eve')
        group.claim('job', ('aa', 'aa'), 'eve')
        group.claim('city', ('aa', 'zz'), 'eve')
        # Forty records, six of them in the group: the first limit counts.
        both = Desk(S, claims=many(40, 1, 6))
        self.refused(TooMany(40), both, 'claim', 'job', ('aa', 'zz'), 'eve')
        all_three = Desk(S, claims=many(40, 5, 6))
        self.refused(TooMany(200), all_three, 'claim', 'job', ('aa', 'zz'), 'eve')

    def test_the_policy_makes_no_difference_to_the_limits(self):
        group = Desk(S, claims=many(6, 1, 6), policy=('ranks', ('eve',)))
        self.refused(TooMany(6), group, 'claim', 'job', ('aa', 'zz'), 'eve')

    def test_settlements(self):
        desk = Desk(S, settlements=many_settlements(59))
        desk.settle(*LYON)
        self.refused(TooMany(60), desk, 'settle', *NICE)
        self.refused(TooMany(60), desk, 'apply_all', (('settle', NICE),))
        self.refused(InvalidOperation('why'), desk, 'settle', *LYON)
        self.refused(InvalidSettlement('why'), desk, 'settle', 'job', (), ())
        self.assertEqual(desk.apply_all((('release', LYON), ('settle', NICE))), ())
        self.assertEqual(len(desk.settlements()), 60)

    def test_watched_queries(self):
        desk = Desk(S)
        for name in 'abcdef':
            desk.watch(name, Q)
        self.refused(TooMany(6), desk, 'watch', 'g', Q)
        self.refused(InvalidOperation('why'), desk, 'watch', 'a', Q)
        self.refused(InvalidQuery('why'), desk, 'watch', 'g', None)
        self.refused(TooMany(6), desk, 'apply_all', (('watch', ('g', Q)), ('unwatch', 'a')))
        self.assertEqual(desk.apply_all((('unwatch', 'a'), ('watch', ('g', Q)))), ())
        self.assertEqual(list(desk.watched()), list('bcdefg'))

    def test_a_group_that_exceeds_a_limit_in_between(self):
        desk = Desk(S, claims=many(6, 1, 6), settlements=many_settlements(60))
        more = ('job', ('aa', 'zz'), 'eve')
        first = many(6, 1, 6)[0]
        self.refused(TooMany(6), desk, 'apply_all', (('claim', more), ('withdraw', first)))
        self.refused(TooMany(60), desk, 'apply_all', (('settle', LYON), ('release', many_settlements(1)[0])))
        self.assertEqual(desk.apply_all((('withdraw', first), ('claim', more))), ())
        self.assertEqual(desk.undo(), ())
        self.assertEqual(desk.claims(), many(6, 1, 6))


class TestTooManyChoices(Desks):
    """A watched query that cannot be classified (16, after `undo`)."""

    extra = ('left', ('a', 'xa', 'zz'), 'tom')
    settlement = ('left', ('a', 'xa'), (('a', 'xa', 'ya'),))

    def test_it_blocks_everything_but_its_own_unwatch(self):
        for database in (rings.LARGE, rings.LARGER, rings.ONE_SURE, rings.ONE_LARGE, rings.LARGE_PATH):
            desk = ring_desk(database)
            claim = desk.claims()[0]
            for method, arguments in (('claim', self.extra), ('withdraw', claim), ('settle', self.settlement),
                                      ('set_policy', (('all',),)), ('watch', ('town', rings.ACYCLIC)),
                                      ('apply', (('policy', ('votes',)),)), ('apply_all', ((('withdraw', claim),),))):
                self.refused(TooMany(4096), desk, method, *arguments)
            self.refused(TooMany(4096), desk, 'classes', 'home')
            self.assertEqual(desk.unwatch('home'), ())
            self.assertEqual(desk.claim(*self.extra), ())
            self.assertEqual(desk.log()[1:], (('unwatch', 'home'), ('claim', self.extra)))

    def test_the_undo_of_its_watch(self):
        desk = ring_desk(rings.LARGE)
        self.assertEqual(desk.undo(), ())
        self.assertEqual((desk.watched(), desk.log()), ({}, ()))
        # Nor is it asked when it is unwatched and the unwatching is undone.
        desk.watch('home', rings.CYCLIC)
        desk.unwatch('home')
        self.assertEqual(desk.undo(), ())
        self.assertEqual(list(desk.watched()), ['home'])

    def test_before_alone_and_after_alone(self):
        claims = tuple((table[0], record, 'eve') for table, rows in zip(*rings.EXACT) for record in rows)
        desk = Desk(rings.LEFT_RIGHT, claims=claims)
        desk.watch('home', rings.CYCLIC)
        self.assertEqual(desk.classes('home'), {('a',): 'open'})
        self.refused(TooMany(4096), desk, 'claim', *self.extra)
        self.refused(TooMany(4096), desk, 'apply_all', (('claim', self.extra), ('settle', ('left', ('a', 'xb'), (
            ('a', 'xb', 'yb'),))), ('release', ('left', ('a', 'xb'), (('a', 'xb', 'yb'),)))))
        # In between it may be too large.
        self.assertEqual(desk.apply_all((('claim', self.extra), ('withdraw', self.extra))), ())
        self.assertEqual(desk.apply_all((('claim', self.extra), ('settle', self.settlement))), ())
        self.assertEqual(desk.classes('home'), {('a',): 'open'})
        desk.undo()
        desk.unwatch('home')
        desk.claim(*self.extra)
        desk.watch('home', rings.CYCLIC)
        # It would be small enough afterwards, but not before.
        self.refused(TooMany(4096), desk, 'withdraw', *self.extra)
        self.assertEqual([desk.undo(), desk.undo(), desk.undo()], [(), (), ()])
        self.assertEqual(desk.classes('home'), {('a',): 'open'})

    def test_within_a_group(self):
        desk = ring_desk(rings.LARGE)
        other = ('claim', self.extra)
        watch = ('watch', ('home', rings.CYCLIC))
        self.refused(TooMany(4096), desk, 'apply_all', (('unwatch', 'home'), other, watch))
        self.assertEqual(desk.apply_all((('unwatch', 'home'), other, ('watch', ('home', rings.ACYCLIC)))), ())
        self.assertEqual(desk.undo(), ())
        self.assertEqual(desk.apply_all((('unwatch', 'home'), other)), ())

    def test_only_if_no_other_error_applies(self):
        desk = ring_desk(rings.LARGE)
        claim = desk.claims()[0]
        self.refused(InvalidOperation('why'), desk, 'claim', *claim)
        self.refused(InvalidClaims('why'), desk, 'claim', 'left', (), 'eve')
        self.refused(InvalidPolicy('why'), desk, 'set_policy', 'all')
        self.refused(InvalidQuery('why'), desk, 'watch', 'town', None)
        self.refused(UnknownName('town'), desk, 'unwatch', 'town')
        self.refused(InvalidOperation('why'), desk, 'apply', None)
        self.refused(InvalidOperation('why'), desk, 'apply_all', (('withdraw', claim), ('withdraw', claim)))
        self.refused(InvalidAnswer('why'), desk, 'decide', 'home', ('a', 'a'))

    def test_two_of_them_block_each_other(self):
        desk = ring_desk(rings.EXACT, ('home',))
        desk.unwatch('home')
        desk.claim(*self.extra)
        desk.apply_all((('watch', ('home', rings.CYCLIC)), ('watch', ('town', rings.CYCLIC))))
        self.refused(TooMany(4096), desk, 'unwatch', 'home')
        self.assertEqual(desk.apply_all((('unwatch', 'home'), ('unwatch', 'town'))), ())
        self.assertEqual(desk.undo(), ())
        self.assertEqual(list(desk.watched()), ['home', 'town'])
        self.assertEqual(desk.undo(), ())
        self.assertEqual(desk.watched(), {})


class TestDecisions(Desks):

    def test_classes(self):
        desk = Desk(S, policy=('ranks', ('eve', 'tom')))
        self.assertEqual(desk.apply_all(O), ())
        self.assertEqual(desk.classes('home'), {('ann', 'gaul'): 'certain', ('bob', 'gaul'): 'certain'})
        desk.set_policy(('all',))
        self.assertEqual(repr(desk.classes('home')), repr({('ann', 'gaul'): 'open', ('bob', 'gaul'): 'certain'}))
        empty = Desk(S)
        empty.watch('home', Q)
        self.assertEqual(empty.classes('home'), {})

    def test_decisions(self):
        desk = Desk(S)
        desk.apply_all(O)
        database = desk.database()
        self.assertTrue(is_database(database))
        for answer in possible_answers(database, Q) + (('eve', 'gaul'), ('ann', 'eire')):
            decision = self.stable(desk.decide, 'home', answer)
            self.assertTrue(is_decision(database, Q, answer, decision))
            self.assertEqual(decision[0], classify(database, Q, answer))
        for answer in list(broken(('ann', 'gaul'))) + [(), ('ann',), ['ann', 'gaul'], None]:
            self.fails(InvalidAnswer('why'), desk.decide, 'home', answer)

    def test_limits(self):
        desk = ring_desk(rings.ONE_LARGE)
        self.fails(TooMany(4096), desk.classes, 'home')
        self.fails(TooMany(4096), desk.decide, 'home', ('a',))
        self.assertEqual(desk.decide('home', ('b',))[0], 'certain')
        self.assertEqual(desk.decide('home', ('c',)), ('impossible',))
        self.assertEqual(ring_desk(rings.EXACT).decide('home', ('a',))[0], 'open')

    def test_settling_again_and_in_another_order(self):
        """The result depends only on the records and the set of settlements (0.8)."""
        pick = random.Random(162)
        kinds = {}
        for _ in range(60):
            drawer = Drawer(pick)
            claims = {drawer.claim() for _ in range(8)}
            desk = Desk(drawer.schema)
            for claim in sorted(claims):
                try:
                    desk.claim(*claim)
                except TooMany:
                    pass
            for at, query in enumerate(drawer.queries):
                desk.watch('abcd'[at], query)
            settlements = [drawer.settlement() for _ in range(5)]
            other = Desk(drawer.schema, claims=desk.claims())
            for at, query in enumerate(drawer.queries):
                other.watch('abcd'[at], query)
            for settlement in settlements:
                before = {name: desk.classes(name) for name in 'abcd'}
                if settlement in desk.settlements():
                    continue
                news = desk.settle(*settlement)
                for name, answer, old, new in news if not desk.disputed() else ():
                    self.assertEqual(old, 'open')
                    self.assertEqual(before[name][answer], 'open')
                    kinds[new] = kinds.get(new, 0) + 1
            for settlement in pick.sample(settlements, 5):
                if settlement not in other.settlements():
                    other.settle(*settlement)
                    other.undo()
                    other.settle(*settlement)
            self.assertTrue(desk == other)
            self.assertEqual(repr(self.show(desk)[:7]), repr(self.show(other)[:7]))
            self.assertEqual(self.show(desk)[-1], self.show(other)[-1])
        self.assertGreater(min(kinds['certain'], kinds['impossible']), 2, kinds)
