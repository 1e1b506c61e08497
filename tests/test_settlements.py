"""Settlements (12.1, 12.2, 12.3), and the main guarantee as far as it speaks of them (0.8)."""

import random

from rightrecord.certain.verdicts import classify
from rightrecord.data.databases import conflicting_groups, group_names, is_database
from rightrecord.errors import InvalidDatabase, InvalidSchema, InvalidSettlement, UnknownGroup, UnknownName
from rightrecord.settle.settlements import (MAX_SETTLEMENTS, admitted_records, are_settlements, disputed_groups,
                                            is_settlement, settled_database)
from tests import oracle
from tests.support import D, M, N, S, STRANGE, Case, broken

Q = (('P', 'C'), (('job', ('P', 'T')), ('city', ('T', 'C'))))
EMPTY = (S, ((), ()))
ANN, BOB = ('job', ('ann',)), ('job', ('bob',))
LYON = ('job', ('bob',), (('bob', 'lyon'),))
CORK = ('job', ('bob',), (('bob', 'cork'),))
EITHER = ('job', ('bob',), (('bob', 'cork'), ('bob', 'lyon'), ('bob', 'rome')))
ROME = ('job', ('bob',), (('bob', 'rome'),))
EVE = ('job', ('eve',), (('eve', 'cork'),))
NICE = ('job', ('ann',), (('ann', 'nice'), ('ann', 'rome')))
RATE = ('rate', (), ((0,), (1,)))


def many(count):
    """Return so many settlements, ascending."""
    letters = 'abcdefgh'
    pairs = [(one + other, (one + other, 'rome')) for one in letters for other in letters]
    return tuple(('job', (name,), (record,)) for name, record in pairs[:count])


def admitted(database, settlements, name):
    """Return the pair of the admitted records of a group and whether it is disputed."""
    records = dict(oracle.groups(database))[name]
    left = [record for record in records
            if all(record in settlement[2] for settlement in settlements if settlement[:2] == name)]
    return (tuple(left) or records), not left


def drawn_settlements(pick, database, count, disputes):
    """Return settlements, some of them of groups that do not exist; each keeps a record if there is to be no dispute."""
    schema, rows = database
    found = set()
    for _ in range(count):
        at = pick.randrange(len(schema))
        table, size, kinds = schema[at]
        values = [tuple(pick.choice({'name': 'uvw', 'number': (0, 1, 2)}[kind]) for kind in kinds) for _ in range(4)]
        if rows[at] and pick.random() < 0.8:
            base = pick.choice(rows[at])
            values = [base[:size] + value[size:] for value in values]
            own = [record for record in rows[at] if record[:size] == base[:size]]
            # The same record of a group always stays, so that its settlements agree.
            values += [pick.choice(own) if disputes else own[0]]
        key = values[-1][:size]
        records = tuple(sorted({value for value in values if value[:size] == key}))
        found.add((table, key, records))
    return tuple(sorted(found))


class TestForm(Case):

    def test_settlements(self):
        self.assertEqual(MAX_SETTLEMENTS, 60)
        for settlement in (LYON, CORK, EITHER, ROME, EVE, NICE):
            self.returns(True, is_settlement, S, settlement)
            self.returns(True, are_settlements, S, (settlement,))
        self.returns(True, is_settlement, N, RATE)
        self.returns(True, is_settlement, N, ('full', ('ann', 1), (('ann', 1),)))
        self.returns(True, are_settlements, S, ())
        self.returns(True, are_settlements, S, tuple(sorted((LYON, CORK, EITHER, EVE, NICE))))

    def test_one_to_six_records(self):
        rows = tuple(('bob', letter) for letter in 'abcdefg')
        for count in range(1, 7):
            self.returns(True, is_settlement, S, ('job', ('bob',), rows[:count]))
        self.returns(False, is_settlement, S, ('job', ('bob',), rows))
        self.returns(False, is_settlement, S, ('job', ('bob',), ()))

    def test_any_value(self):
        values = list(STRANGE) + [
            LYON[:2], LYON + ((),), LYON[::-1], ('jobs',) + LYON[1:], ('city', ('bob',), (('bob', 1),)),
            ('job', ('ann',), LYON[2]), ('job', (), LYON[2]), ('job', ('bob', 'lyon'), LYON[2]), ('job', 'bob', LYON[2]),
            ('job', ('bob',), ('bob', 'lyon')), ('job', ('bob',), (('bob',),)), ('job', ('bob',), EITHER[2][::-1]),
            ('job', ('bob',), LYON[2] * 2), ('job', ('bob',), (('ann', 'lyon'), ('bob', 'lyon'))),
            ('job', ('bob',), (('bob', 1),)), ('job', ('bob',), (('bob', 'lyon', 'x'),)), ('job', ('Bob',), LYON[2]),
            ('job', (1,), ((1, 'lyon'),)), ('job', ('bob',), [('bob', 'lyon')]), ({}, [], None)]
        for value in list(broken(EITHER)) + values:
            self.returns(False, is_settlement, S, value)
            self.returns(False, are_settlements, S, (value,))
        for value in list(broken(RATE)) + [('rate', (), ((False,), (1,))), ('rate', (), ((0,), (True,))),
                                           ('rate', (0,), ((0,),)), ('rate', (), ((1,), (0,))),
                                           ('full', ('ann', True), (('ann', 1),)), ('full', ('ann', 1), (('ann', True),)),
                                           ('full', ('ann', True), (('ann', True),)), ('full', ('ann',), (('ann', 1),))]:
            self.returns(False, is_settlement, N, value)
            self.returns(False, are_settlements, N, (value,))

    def test_sixty_and_sixty_one(self):
        for count in (1, 59, 60):
            self.returns(True, are_settlements, S, many(count))
        for count in (61, 62):
            self.returns(False, are_settlements, S, many(count))
            self.fails(InvalidSettlement('why'), settled_database, D, many(count))

    def test_order_and_repetition(self):
        self.returns(True, are_settlements, S, (CORK, LYON))
        for value in ((LYON, CORK), (LYON, LYON), [CORK, LYON], many(60)[::-1], many(3) + many(1), LYON, {LYON: 1},
                      'settle', None, True, ((),), (None,), ([],), ({},), (CORK, list(LYON)), (CORK, LYON, None)):
            self.returns(False, are_settlements, S, value)
        for value in broken((CORK, LYON)):
            self.returns(False, are_settlements, S, value)


class TestAdmitted(Case):

    def test_samples(self):
        both = (CORK, LYON)
        for settlements, expected, disputed in (
                ((), D[1][1][2:], False), ((LYON,), (('bob', 'lyon'),), False), ((EITHER,), D[1][1][2:], False),
                ((CORK, EITHER), (('bob', 'cork'),), False), (both, D[1][1][2:], True), ((ROME,), D[1][1][2:], True),
                ((EVE,), D[1][1][2:], False), ((EITHER, ROME), D[1][1][2:], True), ((NICE,), D[1][1][2:], False)):
            self.assertTrue(are_settlements(S, settlements))
            self.returns(expected, admitted_records, D, settlements, 'job', ('bob',))
            self.returns((BOB,) if disputed else (), disputed_groups, D, settlements)
            self.returns((S, (D[1][0], D[1][1][:2] + expected) if settlements != (NICE,)
                          else (D[1][0], D[1][1][1:])), settled_database, D, settlements)
        self.returns((('bob', 'lyon'),), admitted_records, D, (('job', ('bob',), (('bob', 'lyon'), ('bob', 'rome'))),),
                     'job', ('bob',))

    def test_groups_alone(self):
        """A record that is alone in its group may be disputed too; it stays."""
        rome = ('city', ('lyon',), (('lyon', 'rome'),))
        self.returns((('city', ('lyon',)),), disputed_groups, D, (rome,))
        self.returns((('lyon', 'gaul'),), admitted_records, D, (rome,), 'city', ('lyon',))
        self.returns(D, settled_database, D, (rome,))
        gaul = ('city', ('lyon',), (('lyon', 'gaul'),))
        self.returns((), disputed_groups, D, (gaul,))
        self.returns((('city', ('lyon',)),), disputed_groups, D, (gaul, rome))

    def test_groups_that_do_not_exist(self):
        self.returns((), disputed_groups, D, (EVE,))
        self.returns(D, settled_database, D, (EVE,))
        self.fails(UnknownGroup(('job', ('eve',))), admitted_records, D, (EVE,), 'job', ('eve',))
        self.returns(EMPTY, settled_database, EMPTY, (EVE, LYON)[::-1])
        self.returns((), disputed_groups, EMPTY, (LYON,))

    def test_tables_with_other_keys(self):
        self.returns(((0,), (1,)), admitted_records, M, (RATE,), 'rate', ())
        self.returns(((5,),), admitted_records, M, (('rate', (), ((5,), (7,))),), 'rate', ())
        self.returns((('rate', ()),), disputed_groups, M, (('rate', (), ((7,),)),))
        self.returns((('ann', 0),), admitted_records, M, (('full', ('ann', 0), (('ann', 0),)),), 'full', ('ann', 0))
        self.returns(((1, 1, 'ann'),), admitted_records, M, (('pay', (1,), ((1, 1, 'ann'),)),), 'pay', (1,))

    def test_against_the_definition(self):
        pick = random.Random(101)
        counts = {True: 0, False: 0}
        for schema, _, database in oracle.random_inputs(102, 400) + oracle.cyclic_inputs(103, 200):
            settlements = drawn_settlements(pick, database, pick.randint(0, 8), True)
            self.returns(True, are_settlements, schema, settlements)
            disputed = []
            rows = {table[0]: [] for table in schema}
            for name, records in oracle.groups(database):
                expected, is_disputed = admitted(database, settlements, name)
                self.returns(expected, admitted_records, database, settlements, *name)
                rows[name[0]] += expected
                disputed += [name] * is_disputed
                counts[is_disputed] += len(expected) < len(records) or is_disputed
            self.returns(tuple(disputed), disputed_groups, database, settlements)
            settled = self.stable(settled_database, database, settlements)
            self.assertEqual(settled, (schema, tuple(tuple(rows[table[0]]) for table in schema)))
            self.assertTrue(is_database(settled))
            self.assertEqual(group_names(settled), group_names(database))
            self.assertLessEqual(set(conflicting_groups(settled)), set(conflicting_groups(database)))
        self.assertGreater(min(counts.values()), 50)


class TestSettling(Case):

    def inputs(self):
        pick = random.Random(104)
        for schema, query, database in oracle.random_inputs(105, 250) + oracle.cyclic_inputs(106, 250):
            settlements = drawn_settlements(pick, database, 6, False)
            if len(oracle.choices(database)) <= 64 and disputed_groups(database, settlements) == ():
                yield pick, schema, query, database, settlements

    def test_two_parts(self):
        """Settling in two parts, in any order, is settling with both."""
        checked = 0
        for pick, _, _, database, settlements in self.inputs():
            part = tuple(settlement for settlement in settlements if pick.random() < 0.5)
            rest = tuple(settlement for settlement in settlements if settlement not in part)
            expected = settled_database(database, settlements)
            self.returns(expected, settled_database, settled_database(database, part), rest)
            self.returns(expected, settled_database, settled_database(database, rest), part)
            self.returns(expected, settled_database, settled_database(database, part), settlements)
            self.returns((), disputed_groups, settled_database(database, part), rest)
            checked += database not in (expected, settled_database(database, part))
        self.assertGreater(checked, 50)

    def test_more_settlements_only_decide(self):
        """Without a dispute certain answers stay certain, and impossible ones impossible."""
        turned = {}
        for _, schema, query, database, settlements in self.inputs():
            before = {answer: classify(database, query, answer) for answer in oracle.domains(schema, query)}
            for count in range(1, len(settlements) + 1):
                settled = settled_database(database, settlements[:count])
                for answer, old in before.items():
                    new = classify(settled, query, answer)
                    if old != 'open':
                        self.assertEqual(new, old)
                    turned[old, new] = turned.get((old, new), 0) + 1
                    before[answer] = new
        self.assertGreater(turned['open', 'certain'], 10)
        self.assertGreater(turned['open', 'impossible'], 10)
        self.assertEqual(classify(settled_database(D, (LYON,)), Q, ('bob', 'gaul')), 'certain')
        self.assertEqual(classify(settled_database(D, (CORK,)), Q, ('bob', 'gaul')), 'impossible')


class TestErrors(Case):

    def test_the_order_of_the_errors(self):
        for schema in list(broken(S)) + list(STRANGE):
            for function in (is_settlement, are_settlements):
                self.fails(InvalidSchema('why'), function, schema, LYON)
                self.fails(InvalidSchema('why'), function, schema, ())
        for database in list(broken(D)) + list(STRANGE):
            for settlements in ((LYON,), None):
                self.fails(InvalidDatabase('why'), admitted_records, database, settlements, None, None)
                self.fails(InvalidDatabase('why'), settled_database, database, settlements)
                self.fails(InvalidDatabase('why'), disputed_groups, database, settlements)
        invalid = list(broken((CORK, LYON))) + [value for value in STRANGE if value != ()] + [
            (LYON, CORK), (LYON, LYON), LYON, (RATE,), many(61)]
        for settlements in invalid:
            self.fails(InvalidSettlement('why'), settled_database, D, settlements)
            self.fails(InvalidSettlement('why'), disputed_groups, D, settlements)
            for table, key in (('job', ('bob',)), ('jobs', None), ([], {})):
                self.fails(InvalidSettlement('why'), admitted_records, D, settlements, table, key)

    def test_unknown_names_and_groups(self):
        for name in ('jobs', '', None, True, 1, [], {}, ('job',)):
            for key in (('bob',), None, []):
                self.fails(UnknownName(name), admitted_records, D, (LYON,), name, key)
        for key in ((), ('eve',), ['bob'], 'bob', None, True, ('bob', 'lyon'), (['bob'],), {}, (1,)):
            self.fails(UnknownGroup(('job', key)), admitted_records, D, (LYON,), 'job', key)
        for table, key in (('pay', (True,)), ('pay', (False,)), ('full', ('ann', True)), ('rate', (0,)), ('rate', [])):
            self.fails(UnknownGroup((table, key)), admitted_records, M, (RATE,), table, key)
