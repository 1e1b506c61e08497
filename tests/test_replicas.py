"""Replicas (17.1, 17.2)."""

import random

from rightrecord.desk.desk import Desk
from rightrecord.desk.replicas import Replica
from rightrecord.errors import (InvalidClaims, InvalidMessage, InvalidPolicy, InvalidSchema, InvalidSettlement,
                                TooMany)
from tests.claim_oracle import drawn_policy
from tests.desk_oracle import Drawer
from tests.support import N, S, STRANGE, Case, broken
from tests.test_claims import K, many
from tests.test_settlements import many as many_settlements

Q = (('P', 'C'), (('job', ('P', 'T')), ('city', ('T', 'C'))))
LYON = ('job', ('ann',), (('ann', 'lyon'),))
NICE = ('job', ('ann',), (('ann', 'nice'),))
RATE = ('rate', (0,), 'tom')
NOTHING = ((), (), (), ())
MESSAGE = (K, K[3:], (LYON, NICE), (NICE,))


def all_of(replica):
    """Return everything that a replica shows."""
    return replica.message(), replica.claims(), replica.settlements(), replica.database(), len(replica), str(replica)


def with_message(message, schema=S):
    replica = Replica(schema)
    replica.receive(message)
    return replica


class Replicas(Case):

    def refused(self, error, replica, method, *arguments):
        before = repr(all_of(replica))
        self.fails(error, getattr(replica, method), *arguments)
        self.assertEqual(repr(all_of(replica)), before)


class TestStanding(Replicas):

    def test_the_first_state(self):
        replica = Replica(S)
        self.assertEqual(all_of(replica), (NOTHING, (), (), (S, ((), ())), 0, 'replica with 0 claims, 0 settlements'))
        self.assertTrue(replica.desk() == Desk(S))

    def test_what_stands(self):
        replica = Replica(S)
        for claim in K:
            self.assertIsNone(replica.make_claim(*claim))
        self.assertIsNone(replica.make_settlement(*LYON))
        self.assertEqual((len(replica), str(replica)), (5, 'replica with 5 claims, 1 settlements'))
        self.assertEqual(replica.database()[1][1], (('ann', 'lyon'), ('bob', 'lyon')))
        self.assertIsNone(replica.withdraw_claim(*K[2]))
        self.assertIsNone(replica.release_settlement(*NICE))
        self.assertEqual(replica.claims(), K[:2] + K[3:])
        # The settlement names a record that stands no longer: the group is disputed, and keeps what it has.
        self.assertEqual(replica.database()[1][1], (('ann', 'nice'), ('bob', 'lyon')))
        self.assertEqual(replica.message(), (K, K[2:3], (LYON,), (NICE,)))
        self.assertEqual((len(replica), str(replica)), (4, 'replica with 4 claims, 1 settlements'))

    def test_withdrawals_and_releases_are_permanent(self):
        replica = Replica(S)
        replica.withdraw_claim(*K[3])
        replica.release_settlement(*LYON)
        for _ in range(2):
            replica.make_claim(*K[3])
            replica.make_settlement(*LYON)
            self.assertEqual((replica.claims(), replica.settlements()), ((), ()))
        self.assertEqual(replica.message(), (K[3:4], K[3:4], (LYON,), (LYON,)))
        replica.make_claim('job', ('ann', 'nice'), 'eve')
        self.assertEqual(replica.claims(), (('job', ('ann', 'nice'), 'eve'),))
        self.assertEqual(str(replica), 'replica with 1 claims, 0 settlements')

    def test_the_database_and_the_desk(self):
        pick = random.Random(171)
        for _ in range(40):
            drawer = Drawer(pick)
            policy = drawn_policy(pick)
            replica = Replica(drawer.schema, policy=policy)
            for _ in range(12):
                self.draw(pick, drawer, replica)
            desk = Desk(drawer.schema, policy=policy, claims=replica.claims(), settlements=replica.settlements())
            self.assertTrue(replica.desk() == desk)
            self.assertEqual((replica.desk().log(), replica.desk().watched()), ((), {}))
            self.assertEqual(replica.database(), desk.database())

    def draw(self, pick, drawer, *replicas):
        """Let the replicas receive one thing, the same one."""
        method = pick.choice(('make_claim', 'make_claim', 'make_settlement', 'withdraw_claim', 'release_settlement'))
        thing = drawer.claim() if 'claim' in method else drawer.settlement()
        for replica in replicas:
            try:
                getattr(replica, method)(*thing)
            except TooMany:
                pass

    def test_the_desk_and_the_replica_change_apart(self):
        replica = with_message(MESSAGE)
        before = all_of(replica)
        desk = replica.desk()
        self.assertFalse(desk is replica.desk())
        desk.watch('home', Q)
        desk.claim('job', ('eve', 'lyon'), 'eve')
        desk.release(*LYON)
        self.assertEqual(all_of(replica), before)
        shown = (desk.claims(), desk.settlements())
        replica.withdraw_claim(*K[0])
        replica.make_settlement('job', ('bob',), (('bob', 'lyon'),))
        self.assertEqual((desk.claims(), desk.settlements()), shown)
        # A replica has no limit of its own for what stands: a desk may have all of it.
        self.assertTrue(with_message((many(40, 5), (), many_settlements(60), ())).desk() ==
                        Desk(S, claims=many(40, 5), settlements=many_settlements(60)))

    def test_the_errors_of_the_constructor(self):
        for schema in list(broken(S)) + list(STRANGE):
            self.fails(InvalidSchema('why'), Replica, schema)
            self.fails(InvalidSchema('why'), Replica, schema, policy=None)
        for policy in ('all', ('all', ()), None, ['all'], ('ranks', ('a', 'a')), ('chain', (('all',),)), {}, True):
            self.fails(InvalidPolicy('why'), Replica, S, policy=policy)
        with self.assertRaises(TypeError):
            Replica(S, ('all',))


class TestEquality(Replicas):

    def test_what_counts(self):
        replica = with_message(MESSAGE)
        self.assertTrue(replica == with_message(MESSAGE))
        self.assertFalse(replica != with_message(MESSAGE))
        other = Replica(S, policy=('votes',))
        other.receive(MESSAGE)
        others = [other, Replica(S), Replica(N), replica.desk()]
        others += [with_message(MESSAGE[:at] + ((),) + MESSAGE[at + 1:]) for at in range(4)]
        for value in others + list(STRANGE) + [MESSAGE, 'replica', Replica, object()]:
            self.assertIs(replica == value, False)
            self.assertIs(value == replica, False)
        # Replicas in which the same stands differ if they have received other things.
        one, two = with_message((K, K[:1], (), ())), with_message((K[1:], (), (), ()))
        self.assertEqual(one.claims(), two.claims())
        self.assertFalse(one == two)
        self.assertTrue(Replica(S, policy=('all',)) == Replica(S))
        self.assertFalse(Replica(S) == Replica(N))

    def test_any_order_and_any_way(self):
        """Replicas that received the same things are equal: directly or in messages, in any order, repeated."""
        pick = random.Random(172)
        withdrawn = 0
        for _ in range(60):
            drawer = Drawer(pick)
            things = [('make_claim', drawer.claim()) for _ in range(6)] + [('make_settlement', drawer.settlement())
                                                                         for _ in range(3)]
            things += [('withdraw_claim',
                        drawer.claim()) for _ in range(3)] + [('release_settlement', drawer.settlement())
                                                                              for _ in range(2)]
            one = Replica(drawer.schema)
            try:
                for method, thing in things:
                    getattr(one, method)(*thing)
            except TooMany:
                continue
            sets = self.sets_of(things)
            self.assertEqual(repr(one.message()), repr(sets))
            self.assertEqual(one.claims(), tuple(claim for claim in sets[0] if claim not in sets[1]))
            self.assertEqual(one.settlements(), tuple(item for item in sets[2] if item not in sets[3]))
            withdrawn += one.claims() != sets[0] and one.settlements() != sets[2]
            for _ in range(3):
                other = self.received(pick, drawer.schema, things)
                self.assertTrue(one == other)
                self.assertEqual(repr(all_of(one)), repr(all_of(other)))
        self.assertGreater(withdrawn, 5)

    def sets_of(self, things):
        words = ('make_claim', 'withdraw_claim', 'make_settlement', 'release_settlement')
        return tuple(tuple(sorted({thing for method, thing in things if method == word})) for word in words)

    def received(self, pick, schema, things):
        """Return a replica that receives the things in another order, some twice, in messages and by way of others."""
        parts = [Replica(schema) for _ in range(3)]
        for method, thing in pick.sample(things * 2, 2 * len(things)):
            getattr(pick.choice(parts), method)(*thing)
        for _ in range(6):
            one, other = pick.sample(parts, 2)
            one.receive(pick.choice((other.message(), other.missing(one.message()), NOTHING, one.message())))
        last = pick.choice(parts)
        for other in parts:
            last.receive(other.missing(last.message()))
            last.receive(other.message())
        return last


class TestMessages(Replicas):

    def test_messages(self):
        replica = Replica(S)
        self.assertIsNone(replica.receive(MESSAGE))
        self.assertEqual(replica.message(), MESSAGE)
        self.assertIsNone(replica.receive(MESSAGE))
        self.assertEqual(replica.message(), MESSAGE)
        replica.receive(NOTHING)
        self.assertEqual(replica.message(), MESSAGE)
        other = ('job', ('eve', 'rome'), 'a')
        replica.receive(((other,), (), (), ()))
        self.assertEqual(replica.message(), (tuple(sorted(K + (other,))),) + MESSAGE[1:])

    def test_missing(self):
        replica = with_message(MESSAGE)
        for message, expected in ((NOTHING, MESSAGE), (MESSAGE, NOTHING), ((K[:2], (), (), ()), (K[2:],) + MESSAGE[1:]),
                                  (((), K, (NICE,), (LYON,)), (K, (), (LYON,), (NICE,))),
                                  ((K[1:2], K[4:], (LYON, NICE), ()), (K[:1] + K[2:], K[3:4], (), (NICE,)))):
            self.returns(expected, replica.missing, message)
        self.assertEqual(replica.message(), MESSAGE)
        self.returns(NOTHING, Replica(S).missing, MESSAGE)

    def test_what_is_no_message(self):
        replica = with_message(MESSAGE)
        numbers = with_message((((RATE,)), (), (('rate', (), ((0,), (1,))),), ()), N)
        bad = [MESSAGE[:3], MESSAGE + ((),), (K,) * 4, ((LYON,),) * 4, MESSAGE[::-1], list(MESSAGE), (),
               (K[::-1],) + MESSAGE[1:], (K, K + K[:1]) + MESSAGE[2:], MESSAGE[:2] + ((NICE, LYON), ()),
               MESSAGE[:2] + ((LYON, LYON), ()), (many(41, 1), (), (), ()), ((), many(41, 1), (), ()),
               (many(7, 1, 7), (), (), ()),
               ((), many(7, 1, 7), (), ()), (many(8, 26)[:201], (), (), ()), ((), many(8, 26)[:201], (), ()),
               ((), (), many_settlements(61), ()), ((), (), (), many_settlements(61)), (None,) * 4, ((),) * 3,
               ((),) * 5,
               {0: K}, 'abcd', ((RATE,), (), (), ()), (K, (), (), None), replica, replica.desk()]
        for value in list(STRANGE) + bad + list(broken(MESSAGE)):
            self.refused(InvalidMessage('why'), replica, 'receive', value)
            self.refused(InvalidMessage('why'), replica, 'missing', value)
        for value in broken(numbers.message()):
            self.refused(InvalidMessage('why'), numbers, 'receive', value)
        for value in ((((('rate', (False,), 'tom')),), (), (), ()), ((), (), (('rate', (), ((0,), (True,))),), ())):
            self.refused(InvalidMessage('why'), numbers, 'receive', value)
            self.refused(InvalidMessage('why'), numbers, 'missing', value)

    def test_messages_at_all_limits(self):
        message = (many(40, 5), many(40, 5, 6), many_settlements(60), many_settlements(60))
        replica = with_message(message)
        self.assertEqual(replica.message(), message)
        self.assertEqual(replica.claims(), tuple(claim for claim in message[0] if claim not in message[1]))
        self.assertEqual(replica.settlements(), ())
        replica.receive(message)
        self.assertEqual(replica.message(), message)


class TestLimits(Replicas):

    def test_claims(self):
        more = ('job', ('zz', 'zz'), 'eve')
        for make, at in (('make_claim', 0), ('withdraw_claim', 1)):
            full = [(), (), (), ()]
            full[at] = many(40, 5)
            replica = with_message(tuple(full))
            self.refused(TooMany(200), replica, make, *more)
            self.refused(TooMany(200), replica, make, 'job', ('aa', 'aa'), 'eve')
            # What it has already adds nothing.
            self.assertIsNone(getattr(replica, make)(*many(40, 5)[0]))
            full[at] = many(40, 1, 6)
            replica = with_message(tuple(full))
            self.refused(TooMany(40), replica, make, *more)
            self.refused(TooMany(40), replica, make, 'job', ('aa', 'zz'), 'eve')
            self.assertIsNone(getattr(replica, make)('job', ('aa', 'aa'), 'eve'))
            full[at] = many(6, 1, 6)
            replica = with_message(tuple(full))
            self.refused(TooMany(6), replica, make, 'job', ('aa', 'zz'), 'eve')
            # The other set has limits of its own.
            getattr(replica, {'make_claim': 'withdraw_claim', 'withdraw_claim': 'make_claim'}[make])(
                'job', ('aa', 'zz'), 'eve')

    def test_withdrawn_claims_count(self):
        replica = with_message((many(6, 1, 6), many(6, 1, 6), (), ()))
        self.assertEqual(replica.claims(), ())
        self.refused(TooMany(6), replica, 'make_claim', 'job', ('aa', 'zz'), 'eve')

    def test_settlements(self):
        for make, at in (('make_settlement', 2), ('release_settlement', 3)):
            full = [(), (), (), ()]
            full[at] = many_settlements(59)
            replica = with_message(tuple(full))
            self.assertIsNone(getattr(replica, make)(*LYON))
            self.refused(TooMany(60), replica, make, *NICE)
            self.assertIsNone(getattr(replica, make)(*LYON))

    def test_the_first_limit_in_the_order_of_the_sets(self):
        replica = with_message((many(40, 5), many(40, 1, 6), many_settlements(60), many_settlements(60)))
        claim = ('job', ('aa', 'zz'), 'eve')
        for message, limit in ((((claim,), (claim,), (LYON,), (LYON,)), 200), (((), (claim,), (LYON,), (LYON,)), 40),
                               (((), (), (LYON,), (LYON,)), 60), (((), (), (), (LYON,)), 60)):
            self.refused(TooMany(limit), replica, 'receive', message)
        groups = with_message((many(6, 1, 6), many(40, 5), (), many_settlements(60)))
        self.refused(TooMany(6), groups, 'receive', ((claim,), (claim,), (), (LYON,)))
        self.refused(TooMany(200), groups, 'receive', ((), (claim,), (), (LYON,)))
        # A message that exceeds a limit adds nothing, not even what would fit.
        self.refused(TooMany(60), groups, 'receive', (K, (), (NICE,), (LYON,)))

    def test_receiving_many(self):
        replica = with_message((many(20, 5), (), (), ()))
        other = tuple(('city', claim[1], claim[2]) for claim in many(20, 5))
        replica.receive((other, (), (), ()))
        self.assertEqual(len(replica), 200)
        replica = with_message((many(20, 5), (), (), ()))
        self.refused(TooMany(200), replica, 'receive', (other + (('job', ('zz', 'zz'), 'a'),), (), (), ()))
        self.refused(TooMany(40), replica, 'receive', (other[:80] + tuple(
            ('job', ('z' + letter, 'a'), 'a') for letter in 'abcdef'), (), (), ()))


class TestErrors(Replicas):

    def test_claims_and_settlements(self):
        replica = with_message(MESSAGE)
        for claim in list(broken(K[2])) + [('jobs', ('ann', 'lyon'), 'eve'), ('job', ('ann',), 'eve')]:
            if type(claim) is tuple and len(claim) == 3:
                for method in ('make_claim', 'withdraw_claim'):
                    self.refused(InvalidClaims('why'), replica, method, *claim)
        for value in list(broken(LYON)) + [('job', ('ann',), ()), ('job', ('ann',), (('bob', 'lyon'),))]:
            if type(value) is tuple and len(value) == 3:
                for method in ('make_settlement', 'release_settlement'):
                    self.refused(InvalidSettlement('why'), replica, method, *value)
        # The form is asked before the limits.
        full = with_message((many(40, 5), many(40, 5), many_settlements(60), many_settlements(60)))
        for method in ('make_claim', 'withdraw_claim'):
            self.refused(InvalidClaims('why'), full, method, 'job', ('zz',), 'eve')
        for method in ('make_settlement', 'release_settlement'):
            self.refused(InvalidSettlement('why'), full, method, 'job', (), ())

    def test_true_and_false_are_no_numbers(self):
        settlement = ('rate', (), ((0,), (1,)))
        replica = with_message((((RATE,)), (), (settlement,), ()), N)
        for method in ('make_claim', 'withdraw_claim'):
            for record in ((False,), (True,)):
                self.refused(InvalidClaims('why'), replica, method, 'rate', record, 'tom')
        for method in ('make_settlement', 'release_settlement'):
            for records in (((False,), (1,)), ((0,), (True,)), [(0,), (1,)]):
                self.refused(InvalidSettlement('why'), replica, method, 'rate', (), records)
