"""Positions and plans (13.1, 13.2)."""

import random

from rightrecord.certain.verdicts import classify
from rightrecord.data.choices import choice_at, count_choices
from rightrecord.data.databases import conflicting_groups, group_records
from rightrecord.errors import InvalidAnswer, InvalidChoice, InvalidDatabase, InvalidPlan, InvalidQuery, TooMany
from rightrecord.settle.plans import follow_plan, is_plan, plan_cost
from tests import oracle, rings
from tests.settle_oracle import Answer, ask, cost, drawn_plan, inputs
from tests.support import D, M, S, STRANGE, Case, broken

Q = (('P', 'C'), (('job', ('P', 'T')), ('city', ('T', 'C'))))
EMPTY = (S, ((), ()))
ANN, BOB = ('job', ('ann',)), ('job', ('bob',))
GAUL = ('bob', 'gaul')
STOP = ('stop',)
PLAN = ask(D, BOB, (STOP, STOP))
BOTH = ask(D, ANN, (PLAN, PLAN))
A = ('a',)
INPUTS = inputs(111, 360, 100)
LETTERS = 'abcdefghijklmnopqrs'


def keyed(letters, values=(0, 1)):
    """Return a database with a group for each letter that has so many records."""
    return (('keyed', 1, ('name', 'number')),), (tuple((one, value) for one in letters for value in values),)


def oblivious(database, names):
    """Return the plan that asks these groups in order, whatever the records are; its parts are shared."""
    plan = STOP
    for name in reversed(names):
        plan = ask(database, name, (plan,) * len(group_records(database, *name)))
    return plan


def changed(pick, plan, answer):
    """Return a value like this plan, with one change at some place."""
    if plan[0] == 'stop' or pick.random() < 0.3:
        branches = plan[-1] if plan[0] == 'ask' else ()
        return pick.choice([
            plan[:-1], plan + ((),), plan[::-1], list(plan), ('stop', ()), ('ask',) + plan[1:], (plan,), None,
            plan[:-1] + (branches[::-1],), plan[:-1] + (branches[1:],), plan[:-1] + (branches + branches[:1],),
            plan[:-1] + (list(branches),), plan[:-1] + (tuple(map(list, branches)),), STOP,
            ('ask',) + pick.choice(answer.names or [('a', ())]) + (branches,), ('ask', 'a', (), branches),
            plan[:-1] + (branches[:1] * len(branches),)])
    branches = plan[3]
    at = pick.randrange(len(branches))
    record, inner = branches[at]
    other = pick.choice([changed(pick, inner, answer), pick.choice(branches)[1], plan])
    return plan[:3] + (branches[:at] + ((record, other),) + branches[at + 1:],)


class TestIsPlan(Case):

    def test_samples(self):
        self.returns(True, is_plan, D, Q, GAUL, PLAN)
        self.returns(True, is_plan, D, Q, GAUL, BOTH)
        self.returns(True, is_plan, D, Q, GAUL, ask(D, BOB, (STOP, ask(D, ANN, (STOP, STOP)))))
        self.returns(False, is_plan, D, Q, GAUL, STOP)
        self.returns(False, is_plan, D, Q, GAUL, ask(D, ANN, (PLAN, STOP)))
        self.returns(False, is_plan, D, Q, GAUL, ask(D, ANN, (STOP, STOP)))
        # A plan may ask on where the answer is certain or impossible already.
        for answer in (('ann', 'gaul'), ('eve', 'gaul')):
            for plan in (STOP, PLAN, BOTH):
                self.returns(True, is_plan, D, Q, answer, plan)
        for query, answer in ((Q, GAUL), (((), Q[1]), ())):
            self.returns(True, is_plan, EMPTY, query, answer, STOP)
            self.returns(False, is_plan, EMPTY, query, answer, PLAN)
            self.returns(False, is_plan, EMPTY, query, answer, ())

    def test_the_forms_that_are_none(self):
        twice = ask(D, BOB, (STOP, ask(D, BOB, (STOP, STOP))))
        single = ('ask', 'city', ('lyon',), ((('lyon', 'gaul'), PLAN),))
        branches = PLAN[3]
        for value in (twice, single, ask(D, ANN, (PLAN, ask(D, ANN, (PLAN, PLAN)))), PLAN[:3] + (branches[:1],),
                      PLAN[:3] + (branches[::-1],), PLAN[:3] + (branches + branches[:1],),
                      PLAN[:3] + (branches[:1] * 2,),
                      PLAN[:3] + (branches + ((('bob', 'rome'), STOP),),), PLAN[:3] + ((),),
                      ('ask', 'job', ('eve',), ()), ('ask', 'jobs', ('bob',), branches),
                      ('ask', 'job', 'bob', branches),
                      ('ask', 'job', ('ann',), branches), ('ask', 'city', ('cork',), ((('cork', 'eire'), PLAN),)),
                      ('ask', 'job', ('bob',), (('bob', 'cork'), STOP)), ('stop', ()), ('ask',), 'stop', ('ask', BOB),
                      ('ask', 'job', ('bob',), tuple(map(list, branches))), list(PLAN), ('asks',) + PLAN[1:],
                      ('ask', 'job', ('bob',), tuple(branch + ((),) for branch in branches))):
            for answer in (GAUL, ('ann', 'gaul'), ('eve', 'gaul')):
                self.returns(False, is_plan, D, Q, answer, value)
                self.fails(InvalidPlan('why'), plan_cost, D, Q, answer, value)

    def test_any_value(self):
        for value in list(broken(PLAN)) + list(broken(BOTH)) + list(STRANGE) + [(), ({}, []), ([],) * 4]:
            self.returns(False, is_plan, D, Q, GAUL, value)
            self.fails(InvalidPlan('why'), plan_cost, D, Q, GAUL, value)

    def test_true_is_not_one(self):
        query = (('X',), (('rate', ('X',)),))
        plan = ask(M, ('pay', (1,)), (ask(M, ('rate', ()), (STOP,) * 3),) * 2)
        self.returns(True, is_plan, M, query, (1,), plan)
        self.returns(2, plan_cost, M, query, (1,), plan)
        for value in broken(plan):
            self.returns(False, is_plan, M, query, (1,), value)
        for before, other in (((0,), (False,)), ((1,), (True,))):
            branches = tuple((other if record == before else record, part) for record, part in plan[3][1][1][3])
            self.returns(False, is_plan, M, query, (1,), plan[:3] + (
                (plan[3][0], (plan[3][1][0], plan[3][1][1][:3] + (branches,))),))
        self.returns(False, is_plan, M, query, (1,), plan[:2] + ((True,),) + plan[3:])

    def test_against_all_choices(self):
        pick = random.Random(112)
        counts = {}
        for schema, query, database, name in INPUTS:
            answer = Answer(database, query, name)
            for _ in range(3):
                plan = drawn_plan(pick, answer)
                if pick.random() < 0.4:
                    plan = changed(pick, plan, answer)
                has_form = answer.has_form(plan)
                expected = has_form and answer.is_plan(plan)
                self.returns(expected, is_plan, database, query, name, plan)
                if expected:
                    self.returns(cost(plan), plan_cost, database, query, name, plan)
                else:
                    self.fails(InvalidPlan('why'), plan_cost, database, query, name, plan)
                kind = answer.kind()
                counts[kind, has_form, expected] = counts.get((kind, has_form, expected), 0) + 1
        for kind in ('certain', 'open', 'impossible'):
            self.assertGreater(counts[kind, True, True], 50, counts)
            self.assertGreater(counts[kind, False, False], 50, counts)
        self.assertGreater(counts['open', True, False], 50, counts)

    def test_every_depth_that_the_database_allows(self):
        for values in ((0, 1), (2, 3)):
            for letters in (LETTERS[:1], LETTERS[:12], LETTERS, LETTERS + 't'):
                database = keyed(letters, values)
                query = ((), (('keyed', ('K', values[1])),))
                names = conflicting_groups(database)
                plan = STOP
                for name in reversed(names):
                    plan = ask(database, name, (plan, STOP))
                self.returns(True, is_plan, database, query, (), plan)
                self.returns(len(letters), plan_cost, database, query, (), plan)
                short = STOP
                for name in reversed(names[:-1]):
                    short = ask(database, name, (short, STOP))
                self.returns(False, is_plan, database, query, (), short)
                # The answer is open where the other branches stop.
                wrong = STOP
                for name in reversed(names):
                    wrong = ask(database, name, (STOP, wrong))
                self.returns(len(letters) == 1, is_plan, database, query, (), wrong)

    def test_plans_whose_parts_are_shared(self):
        """A small value may stand for a plan with half a million stops."""
        database = keyed(LETTERS, (2, 3))
        names = conflicting_groups(database)
        for query in (((), (('keyed', ('K', 3)),)), ((), (('keyed', ('s', 3)),))):
            plan = oblivious(database, names)
            self.assertTrue(is_plan(database, query, (), plan))
            self.assertEqual(plan_cost(database, query, (), plan), 19)
            self.assertFalse(is_plan(database, query, (), oblivious(database, names[:-1])))
            self.assertFalse(is_plan(database, query, (), oblivious(database, names + names[-1:])))
        self.assertTrue(is_plan(database, ((), (('keyed', ('a', 3)),)), (), oblivious(database, names[:1])))
        self.assertTrue(is_plan(database, ((), (('keyed', ('s', 3)),)), (), oblivious(database, names[-1:])))

    def test_equal_plans_behind_records_that_differ(self):
        """The same plan behind both records is asked for both of them: what one record decides, another may not."""
        database = keyed('abc', (2, 3))
        query = ((), (('keyed', ('K', 3)),))
        names = conflicting_groups(database)
        inner = ask(database, names[1], (STOP, STOP))
        self.returns(False, is_plan, database, query, (), ask(database, names[0], (inner, inner)))
        self.returns(False, is_plan, database, query, (), ask(database, names[0], (inner, STOP)))
        certain = ((), (('keyed', ('a', 3)),))
        self.returns(True, is_plan, database, certain, (), ask(database, names[0], (inner, inner)))


class TestFollow(Case):

    def test_samples(self):
        self.returns(1, plan_cost, D, Q, GAUL, PLAN)
        self.returns(2, plan_cost, D, Q, GAUL, BOTH)
        self.returns(0, plan_cost, D, Q, ('ann', 'gaul'), STOP)
        uneven = ask(D, BOB, (STOP, ask(D, ANN, (STOP, STOP))))
        self.returns(2, plan_cost, D, Q, GAUL, uneven)
        self.returns(2, plan_cost, D, Q, GAUL, ask(D, BOB, (ask(D, ANN, (STOP, STOP)), STOP)))
        self.returns((), follow_plan, EMPTY, Q, GAUL, STOP, ())
        self.returns((), follow_plan, D, Q, ('ann', 'gaul'), STOP, choice_at(D, 2))
        cork = BOB + (('bob', 'cork'),)
        self.returns((cork,), follow_plan, D, Q, GAUL, uneven, choice_at(D, 0))
        self.returns((cork,), follow_plan, D, Q, GAUL, uneven, choice_at(D, 2))
        # The position ascends, in whatever order the groups are asked.
        lyon = BOB + (('bob', 'lyon'),)
        self.returns((ANN + (('ann', 'nice'),), lyon), follow_plan, D, Q, GAUL, uneven, choice_at(D, 3))
        self.returns((ANN + (('ann', 'nice'),), lyon), follow_plan, D, Q, GAUL, BOTH, choice_at(D, 3))

    def test_every_choice(self):
        pick = random.Random(113)
        followed = 0
        for schema, query, database, name in INPUTS[::3]:
            answer = Answer(database, query, name)
            plan = drawn_plan(pick, answer)
            is_one = answer.is_plan(plan)
            for choice in answer.holds:
                if not is_one:
                    self.fails(InvalidPlan('why'), follow_plan, database, query, name, plan, choice)
                    continue
                position = self.stable(follow_plan, database, query, name, plan, choice)
                self.assertIn(position, answer.stops(plan))
                self.assertIn(choice, answer.choices_at(position))
                self.assertEqual(list(position), sorted(position))
                self.assertEqual(answer.kind(position), 'certain' if answer.holds[choice] else 'impossible')
                followed += position != ()
        self.assertGreater(followed, 300)

    def test_a_long_path(self):
        database = keyed(LETTERS)
        query = ((), (('keyed', ('K', 1)),))
        names = conflicting_groups(database)
        plan = STOP
        for name in reversed(names):
            plan = ask(database, name, (plan, STOP))
        for number, many in ((0, 19), (1, 19), (2, 18), (2 ** 18, 1), (2 ** 19 - 1, 1), (2 ** 17 + 5, 2)):
            choice = choice_at(database, number)
            position = follow_plan(database, query, (), plan, choice)
            self.assertEqual(position, tuple(name + (record,) for name, record in zip(names, choice))[:many])


class TestErrors(Case):

    def test_the_order_of_the_errors(self):
        choice = choice_at(D, 0)
        for database in list(broken(D)) + list(STRANGE):
            self.fails(InvalidDatabase('why'), is_plan, database, None, None, PLAN)
            self.fails(InvalidDatabase('why'), plan_cost, database, Q, GAUL, PLAN)
            self.fails(InvalidDatabase('why'), follow_plan, database, Q, None, None, None)
        for query in list(broken(Q)) + list(STRANGE):
            self.fails(InvalidQuery('why'), is_plan, D, query, GAUL, PLAN)
            self.fails(InvalidQuery('why'), plan_cost, D, query, None, None)
            self.fails(InvalidQuery('why'), follow_plan, D, query, GAUL, PLAN, None)
        for answer in list(broken(GAUL)) + [(), ('ann',), ['bob', 'gaul']]:
            self.fails(InvalidAnswer('why'), is_plan, D, Q, answer, PLAN)
            self.fails(InvalidAnswer('why'), plan_cost, D, Q, answer, None)
            self.fails(InvalidAnswer('why'), follow_plan, D, Q, answer, None, choice)
        # The form of the plan, then the choice, then whether it is a plan for the answer.
        for bad in list(broken(choice)) + list(STRANGE):
            self.fails(InvalidPlan('why'), follow_plan, D, Q, GAUL, ('stop', ()), bad)
            self.fails(InvalidChoice('why'), follow_plan, D, Q, GAUL, PLAN, bad)
            self.fails(InvalidChoice('why'), follow_plan, D, Q, GAUL, STOP, bad)
        self.fails(InvalidPlan('why'), follow_plan, D, Q, GAUL, STOP, choice)
        self.fails(InvalidPlan('why'), plan_cost, D, Q, GAUL, STOP)
        self.fails(InvalidPlan('why'), follow_plan, D, Q, GAUL, None, choice)

    def check_too_many(self, database, query, plan):
        choice = choice_at(database, 0)
        self.fails(TooMany(4096), is_plan, database, query, A, plan)
        self.fails(TooMany(4096), plan_cost, database, query, A, plan)
        self.fails(TooMany(4096), follow_plan, database, query, A, plan, choice)
        self.fails(InvalidChoice('why'), follow_plan, database, query, A, plan, choice[1:])

    def test_too_many_at_a_stop(self):
        for database in (rings.LARGER, rings.LARGE, rings.LARGE_PATH, rings.ONE_LARGE, rings.ONE_SURE):
            self.check_too_many(database, rings.CYCLIC, STOP)
            # Without a cycle every number of choices is allowed.
            kind = classify(database, rings.ACYCLIC, A)
            self.returns(kind != 'open', is_plan, database, rings.ACYCLIC, A, STOP)
            self.returns(True, is_plan, database, rings.CYCLIC, ('c',), STOP)
        for database in (rings.EXACT, rings.EXACT_PATH):
            kind = classify(database, rings.CYCLIC, A)
            self.returns(kind != 'open', is_plan, database, rings.CYCLIC, A, STOP)

    def test_too_many_at_one_stop_beside_others(self):
        # With one group asked the rest of the ring is a path, still with 2 ** 13 choices; with two it has 2 ** 12.
        database = rings.LARGE
        name, other, third = conflicting_groups(database)[:3]
        self.check_too_many(database, rings.CYCLIC, ask(database, name, (STOP, STOP)))
        small = ask(database, other, (STOP, STOP))
        smaller = ask(database, third, (small, small))
        for plan in (ask(database, name, (small, STOP)), ask(database, name, (STOP, small)),
                     ask(database, name, (smaller, STOP)), ask(database, name, (STOP, smaller))):
            self.check_too_many(database, rings.CYCLIC, plan)
        # Nothing is raised if each stop is small; one that is open makes no plan, whatever the others are.
        whole = oblivious(database, conflicting_groups(database)[1:])
        for parts, expected in (((whole, whole), True), ((small, whole), False), ((whole, small), False)):
            self.assertEqual(is_plan(database, rings.CYCLIC, A, ask(database, name, parts)), expected)
        # The stops have 4096 choices each, and the answer is open there.
        plan = ask(database, name, (small, small))
        self.returns(False, is_plan, database, rings.CYCLIC, A, plan)
        self.fails(InvalidPlan('why'), plan_cost, database, rings.CYCLIC, A, plan)
        self.fails(InvalidPlan('why'), follow_plan, database, rings.CYCLIC, A, plan, choice_at(database, 7))

    def test_what_has_not_the_form_asks_nothing(self):
        database = rings.LARGE
        name = conflicting_groups(database)[0]
        for value in (('stop', ()), ask(database, name, (STOP, ask(database, name, (STOP, STOP)))),
                      ask(database, name, (STOP, STOP))[:3] + (((('a', 'xa', 'ya'), STOP),),), None, (), [STOP],
                      ask(database, name, (STOP, None)), ask(database, name, (STOP, ('stop', 'stop')))):
            self.returns(False, is_plan, database, rings.CYCLIC, A, value)
            self.fails(InvalidPlan('why'), plan_cost, database, rings.CYCLIC, A, value)
            self.fails(InvalidPlan('why'), follow_plan, database, rings.CYCLIC, A, value, None)

    def test_a_plan_for_a_large_component(self):
        """Asking all groups of a ring that is too large leaves nothing open at any stop."""
        database = rings.LARGE
        names = conflicting_groups(database)
        self.assertEqual(count_choices(database), 2 ** 14)
        plan = oblivious(database, names)
        self.assertTrue(is_plan(database, rings.CYCLIC, A, plan))
        self.assertEqual(plan_cost(database, rings.CYCLIC, A, plan), 14)
        choice = choice_at(database, 4711)
        position = follow_plan(database, rings.CYCLIC, A, plan, choice)
        self.assertEqual(position, tuple(name + (record,) for name, record in zip(names, choice)))
        kinds = oracle.conflicts(database, rings.CYCLIC, (('a', 'xa', 'ya'), ('a', 'ya', 'xa')))
        self.assertEqual(len(kinds), 2)
