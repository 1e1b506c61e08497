"""Plans of the least cost, and guards (13.3)."""

import itertools
import random

from rightrecord.certain.verdicts import classify
from rightrecord.data.databases import conflicting_groups, group_records, with_record
from rightrecord.errors import InvalidAnswer, InvalidDatabase, InvalidNumber, InvalidQuery, TooMany
from rightrecord.settle.influence import influential_groups
from rightrecord.settle.least import MAX_POSITIONS, find_guard, is_guard, least_cost, least_plan
from rightrecord.settle.plans import is_plan, plan_cost
from tests import rings
from tests.settle_oracle import Answer, after, ask, inputs
from tests.support import D, M, S, STRANGE, Case, broken

Q = (('P', 'C'), (('job', ('P', 'T')), ('city', ('T', 'C'))))
EMPTY = (S, ((), ()))
F = with_record(D, 'city', ('lyon', 'eire'))
ANN, BOB, LYON = ('job', ('ann',)), ('job', ('bob',)), ('city', ('lyon',))
GAUL = ('bob', 'gaul')
STOP = ('stop',)
A = ('a',)
GUARD = ((), (LYON + (('lyon', 'eire'),),), (ANN + (('ann', 'lyon'),),))
INPUTS = inputs(121, 420, 130)
# Two tables of which each record has a partner that equals it.
PAIRS = (('one', 1, ('name', 'number')), ('two', 1, ('name', 'number')))
MEET = ((), (('one', ('X', 'N')), ('two', ('X', 'N'))))


def paired(*sizes):
    """Return a database with two groups, linked with one another, of each of these sizes."""
    rows = tuple((letter, at) for letter, size in zip('abcdefgh', sizes) for at in range(size))
    return PAIRS, (rows, rows)


class Plans(Case):

    def check(self, database, query, answer, cost):
        """The plan, its cost and the guard are what they must be, one certifying the other."""
        self.returns(cost, least_cost, database, query, answer)
        plan = self.stable(least_plan, database, query, answer)
        self.returns(True, is_plan, database, query, answer, plan)
        self.returns(cost, plan_cost, database, query, answer, plan)
        guard = self.stable(find_guard, database, query, answer)
        self.returns(True, is_guard, database, query, answer, cost, guard)
        self.returns(False, is_guard, database, query, answer, cost + 1, guard)
        return plan, guard


class TestLeast(Plans):

    def test_samples(self):
        self.assertEqual(MAX_POSITIONS, 4096)
        plan, guard = self.check(D, Q, GAUL, 1)
        self.assertEqual(plan, ask(D, BOB, (STOP, STOP)))
        self.assertEqual(guard, ((),))
        for answer in (('ann', 'gaul'), ('eve', 'gaul')):
            plan, guard = self.check(D, Q, answer, 0)
            self.assertEqual((plan, guard), (STOP, ()))
        _, guard = self.check(F, Q, ('ann', 'gaul'), 2)
        self.assertEqual(len(guard), 3)
        for query, answer in ((Q, GAUL), (((), Q[1]), ())):
            self.assertEqual(self.check(EMPTY, query, answer, 0), (STOP, ()))

    def test_against_all_groups(self):
        """The least cost is that of an own reckoning, in which any conflicting group may be asked."""
        seen = {}
        for schema, query, database, name in INPUTS:
            answer = Answer(database, query, name)
            cost = answer.least()
            plan, guard = self.check(database, query, name, cost)
            self.assertTrue(answer.is_plan(plan))
            self.assertTrue(answer.is_guard(cost, guard))
            key = (cost, len(answer.conflicting) > len(answer.influential()))
            seen[key] = seen.get(key, 0) + 1
        self.assertGreater(min(seen.get(key, 0) for key in itertools.product((0, 1, 2), (True, False))), 10, seen)
        self.assertGreater(seen.get((3, False), 0) + seen.get((3, True), 0), 5, seen)

    def test_less_than_all_that_matter(self):
        """The group that is asked first decides which other one matters."""
        schema = (('one', 1, ('name', 'name')), ('two', 1, ('name', 'name')))
        rows = ((('a', 'u'), ('a', 'v')), (('u', 'x'), ('u', 'y'), ('v', 'x'), ('v', 'y')))
        database = (schema, rows)
        query = ((), (('one', ('a', 'N')), ('two', ('N', 'x'))))
        self.assertEqual(len(influential_groups(database, query, ())), 3)
        plan, guard = self.check(database, query, (), 2)
        self.assertEqual(plan[1:3], ('one', ('a',)))

    def test_with_a_cycle_and_without(self):
        for count in (2, 3):
            database = rings.ring_database(rings.ring('a', count))
            answer = Answer(database, rings.CYCLIC, A)
            self.check(database, rings.CYCLIC, A, answer.least())
            self.check(database, rings.ACYCLIC, A, 0)
            self.check(rings.ring_database(rings.path('a', count)), rings.CYCLIC, A, 0)


class TestLimits(Plans):

    def test_positions(self):
        # Six groups of three records have 4 ** 6 = 4096 positions.
        plan, guard = self.check(paired(3, 3, 3), MEET, (), 6)
        self.assertGreater(len(guard), 40)
        self.check(paired(2, 2, 2), MEET, (), 6)
        for sizes in ((3, 3, 4), (4, 4, 4), (2, 2, 3, 3), (2, 2, 2, 2)):
            for function in (least_plan, least_cost, find_guard):
                self.fails(TooMany(4096), function, paired(*sizes), MEET, ())
        # One group of each kind of the pair: seven groups of two, and one of six, are few enough or not.
        schema = (('keyed', 1, ('name', 'number')),)
        for sizes, many in (((2,) * 7, 2187), ((2,) * 6 + (4,), 3645), ((2,) * 6 + (5,), 4374), ((2,) * 8, 6561),
                            ((3, 3, 3, 3, 3, 3), 4096), ((6, 6, 6, 6), 2401), ((3, 3, 3, 3, 3, 4), 5120)):
            rows = tuple((letter, at) for letter, size in zip('abcdefgh', sizes) for at in range(size))
            query = ((), (('keyed', ('K', 1)),))
            if many <= 4096:
                self.check((schema, (rows,)), query, (), len(sizes))
            else:
                for function in (least_plan, least_cost, find_guard):
                    self.fails(TooMany(4096), function, (schema, (rows,)), query, ())

    def test_only_groups_that_matter_count(self):
        rows = tuple((letter, at) for letter in 'abcdefghijklmnopqrst' for at in (0, 1))
        database = ((('keyed', 1, ('name', 'number')),), (rows,))
        self.check(database, (('K',), (('keyed', ('K', 1)),)), ('c',), 1)
        self.check(database, ((), (('keyed', ('K', 'X')),)), (), 0)
        self.check(database, ((), (('keyed', ('k', 1)),)), (), 1)
        for function in (least_plan, least_cost, find_guard):
            self.fails(TooMany(4096), function, database, ((), (('keyed', ('K', 1)),)), ())
        # An answer that is certain has no group that matters, however many groups its witnesses use.
        more = (database[0], (rows[:-1],))
        self.check(more, ((), (('keyed', ('K', 'X')),)), (), 0)

    def test_components(self):
        for database in (rings.LARGER, rings.LARGE, rings.LARGE_PATH, rings.ONE_LARGE, rings.ONE_SURE):
            for query in (rings.CYCLIC, rings.ACYCLIC):
                for function in (least_plan, least_cost, find_guard):
                    self.fails(TooMany(4096), function, database, query, A)
                for cost in (0, 1, 40):
                    self.fails(TooMany(4096), is_guard, database, query, A, cost, ())
                self.check(database, query, ('c',), 0)
        # 4096 choices are allowed; of an open answer there are too many positions then, of a certain one there are not.
        self.assertEqual(classify(rings.EXACT, rings.CYCLIC, A), 'open')
        for function in (least_plan, least_cost, find_guard):
            self.fails(TooMany(4096), function, rings.EXACT, rings.CYCLIC, A)
        self.check(rings.EXACT, rings.ACYCLIC, A, 0)
        self.check(rings.EXACT_PATH, rings.CYCLIC, A, 0)
        self.returns(True, is_guard, rings.EXACT, rings.CYCLIC, A, 1, ((),))
        self.returns(False, is_guard, rings.EXACT, rings.CYCLIC, A, 2, ((),))
        positions = [()] + [(name + (group_records(rings.EXACT, *name)[0],),)
                            for name in conflicting_groups(rings.EXACT)]
        self.returns(True, is_guard, rings.EXACT, rings.CYCLIC, A, 2, tuple(positions))


class TestIsGuard(Plans):

    def test_the_guard_of_the_document(self):
        answer = ('ann', 'gaul')
        self.returns(True, is_guard, F, Q, answer, 2, GUARD)
        for value in (GUARD[:2], GUARD[1:], GUARD[::-1], GUARD[:1], (), list(GUARD), GUARD + GUARD[2:], GUARD + ((),)):
            self.returns(False, is_guard, F, Q, answer, 2, value)
        self.returns(True, is_guard, F, Q, answer, 1, GUARD[:1])
        for cost in (0, 3, 4, 40):
            self.returns(False, is_guard, F, Q, answer, cost, GUARD)
        self.returns(False, is_guard, F, Q, answer, 1, GUARD)

    def test_the_cost_zero(self):
        for database, answer in ((D, GAUL), (D, ('ann', 'gaul')), (D, ('eve', 'gaul')), (EMPTY, GAUL)):
            self.returns(True, is_guard, database, Q, answer, 0, ())
            for value in (((),), [], None, {}, '', False, 0, ((), ())):
                self.returns(False, is_guard, database, Q, answer, 0, value)
        for cost in range(1, 41):
            for answer in (('ann', 'gaul'), ('eve', 'gaul')):
                for value in ((), ((),), (((ANN + (('ann', 'lyon'),)),),)):
                    self.returns(False, is_guard, D, Q, answer, cost, value)

    def test_every_cost(self):
        for cost in range(41):
            self.returns(cost == 1, is_guard, D, Q, GAUL, cost, ((),))
            self.returns(cost == 0, is_guard, D, Q, GAUL, cost, ())
            self.returns(cost == 2, is_guard, F, Q, ('ann', 'gaul'), cost, GUARD)

    def test_more_positions_than_needed(self):
        """Other groups may be asked, too, as long as the answer is open; the positions beside them need to go on."""
        answer = ('ann', 'gaul')
        bob = (BOB + (('bob', 'cork'),),)
        for record in group_records(F, *BOB):
            self.returns(True, is_guard, F, Q, answer, 2, tuple(sorted(GUARD + ((BOB + (record,),),))))
        self.returns(True, is_guard, F, Q, answer, 2, tuple(sorted(GUARD + (bob, (BOB + (('bob', 'lyon'),),)))))
        # At (ann, nice) the answer is certain; two triples are too many; what is twice there is not ascending.
        nice = (ANN + (('ann', 'nice'),),)
        two = (GUARD[2][0], bob[0])
        for more in ((nice,), (two,), (GUARD[1],), (GUARD[2],), ((),)):
            self.returns(False, is_guard, F, Q, answer, 2, tuple(sorted(GUARD + more)))
        self.returns(False, is_guard, F, Q, answer, 2, GUARD[:1] + (bob,) + GUARD[1:])

    def test_against_the_definition(self):
        pick = random.Random(122)
        counts = {}
        for schema, query, database, name in INPUTS:
            answer = Answer(database, query, name)
            least = answer.least()
            spare = answer.positions()
            for cost in (least, least, least + 1, max(0, least - 1), 1, 2):
                base = [position for position in find_guard(database, query, name) if len(position) < cost]
                open_ones = [position for position in spare if len(position) < cost and answer.kind(position) == 'open']
                some = pick.choice((base, base + pick.sample(open_ones, min(3, len(open_ones))), open_ones,
                                    base + pick.sample(spare, min(2, len(spare))), spare,
                                    pick.sample(base, max(0, len(base) - 1))))
                value = tuple(sorted(set(some)))
                expected = answer.is_guard(cost, value)
                self.returns(expected, is_guard, database, query, name, cost, value)
                key = (min(cost, 3), expected)
                counts[key] = counts.get(key, 0) + 1
                if expected:
                    self.assertLessEqual(cost, least)
        self.assertGreater(min(counts.get(key, 0) for key in itertools.product((0, 1, 2), (True, False))), 30, counts)
        self.assertGreater(counts.get((3, True), 0), 5, counts)

    def test_every_position_from_which_on_enough_is_left(self):
        """All positions from which on no plan is too cheap are together a guard, up to the least cost."""
        for schema, query, database, name in INPUTS[::4]:
            answer = Answer(database, query, name)
            least = answer.least()
            for cost in range(least + 2):
                value = tuple(position for position in answer.positions()
                              if len(position) < cost <= len(position) + answer.least(position))
                self.returns(cost <= least, is_guard, database, query, name, cost, value)

    def test_any_value(self):
        answer = ('ann', 'gaul')
        lyon = ANN + (('ann', 'lyon'),)
        eire = LYON + (('lyon', 'eire'),)
        values = list(broken(GUARD)) + list(STRANGE) + [
            GUARD[:1] + (list(GUARD[1]), GUARD[2]), {(): 1}, ((), (lyon,), (lyon,)), ((), lyon), ((), (lyon[:2],)),
            ((), (lyon + ((),),)), ((), (eire,), (('jobs',) + lyon[1:],)),
            ((), (eire,), (lyon[:1] + ('ann',) + lyon[2:],)),
            ((), (eire,), (ANN + (('ann', 'rome'),),)), ((), (eire,), (('city', ('nice',), ('nice', 'gaul')),)),
            ((), (eire,), (('job', ('eve',), ('eve', 'lyon')),)), ((), (eire,), ([],)), ((), None), ((), ({},)),
            ([], {})]
        for value in values:
            for cost in (1, 2, 3):
                self.returns(repr(value) == repr(((),)) and cost == 1, is_guard, F, Q, answer, cost, value)

    def test_positions_that_are_none(self):
        """Unordered triples, groups that are named twice, or are not conflicting, and as many triples as the cost."""
        database = paired(2, 2)
        first, second, third, fourth = [name + (group_records(database, *name)[0],)
                                        for name in conflicting_groups(database)]
        guard = find_guard(database, MEET, ())
        self.returns(True, is_guard, database, MEET, (), 4, guard)
        more = tuple(sorted(set(guard) | {(first, second)}))
        answer = Answer(database, MEET, ())
        self.returns(answer.is_guard(4, more), is_guard, database, MEET, (), 4, more)
        for bad in ((second, first), (first, first), (first, first[:2] + (('a', 1),)), (first, second, third, fourth),
                    (first, second, fourth, third)):
            self.returns(False, is_guard, database, MEET, (), 4, tuple(sorted(set(guard) | {bad})))

    def test_a_group_that_is_named_twice(self):
        """Also in a position with one triple less than the cost, from which no other one need go on."""
        database = paired(2, 2)
        answer = Answer(database, MEET, ())
        guard = tuple(position for position in find_guard(database, MEET, ()) if len(position) < 3)
        self.returns(True, is_guard, database, MEET, (), 3, guard)
        for name, records in answer.conflicting.items():
            for record in records:
                for other in records:
                    value = tuple(sorted(set(guard) | {(name + (record,), name + (other,))}))
                    self.returns(False, is_guard, database, MEET, (), 3, value)

    def test_true_is_not_one(self):
        database = paired(2, 2)
        guard = find_guard(database, MEET, ())
        for value in broken(guard):
            self.returns(False, is_guard, database, MEET, (), 4, value)


class TestErrors(Plans):

    def test_the_order_of_the_errors(self):
        for database in list(broken(D)) + list(STRANGE):
            for function in (least_plan, least_cost, find_guard):
                self.fails(InvalidDatabase('why'), function, database, Q, GAUL)
                self.fails(InvalidDatabase('why'), function, database, None, [])
            self.fails(InvalidDatabase('why'), is_guard, database, None, [], None, None)
        for query in list(broken(Q)) + list(STRANGE):
            for function in (least_plan, least_cost, find_guard):
                self.fails(InvalidQuery('why'), function, D, query, GAUL)
            self.fails(InvalidQuery('why'), is_guard, D, query, GAUL, 41, ((),))
        for answer in list(broken(GAUL)) + [(), ('ann',), ['bob', 'gaul']]:
            for function in (least_plan, least_cost, find_guard):
                self.fails(InvalidAnswer('why'), function, D, Q, answer)
            self.fails(InvalidAnswer('why'), is_guard, D, Q, answer, -1, ((),))
        for cost in (-1, 41, 42, 10 ** 39, -(10 ** 39), True, False, None, '1', (1,), [1], {}, [], ()):
            self.fails(InvalidNumber(cost), is_guard, D, Q, GAUL, cost, ((),))
            # The cost is asked before the limit.
            self.fails(InvalidNumber(cost), is_guard, rings.LARGE, rings.CYCLIC, A, cost, ((),))

    def test_too_many_only_where_all_arguments_are_valid(self):
        for function in (least_plan, least_cost, find_guard):
            self.fails(InvalidAnswer('why'), function, rings.LARGE, rings.CYCLIC, (1,))
            self.fails(InvalidQuery('why'), function, rings.LARGE, Q, A)
        self.fails(InvalidAnswer('why'), is_guard, rings.LARGE, rings.CYCLIC, ('a', 'a'), 1, ())

    def test_answers_of_numbers(self):
        query = (('X',), (('rate', ('X',)),))
        self.check(M, query, (1,), 1)
        self.fails(InvalidAnswer('why'), least_cost, M, query, (True,))

    def test_positions_of_a_small_plan(self):
        """The position of a stop that the plan of least cost has is not open; those above it are."""
        answer = Answer(F, Q, ('ann', 'gaul'))
        plan = least_plan(F, Q, ('ann', 'gaul'))
        for stop in answer.stops(plan):
            self.assertNotEqual(answer.kind(stop), 'open')
        self.assertEqual(answer.kind(after((), plan[1:3], plan[3][0][0])) == 'open', plan[3][0][1] != STOP)
