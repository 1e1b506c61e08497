"""Reports (15.1, 15.2, 15.3)."""

import random

from rightrecord.certain.verdicts import certain_answers
from rightrecord.data.choices import choice_at, count_choices
from rightrecord.data.databases import make_database
from rightrecord.errors import InvalidChoice, InvalidDatabase, InvalidNumber, InvalidReport, InvalidSchema, TooMany
from rightrecord.query.matching import possible_answers
from rightrecord.reports.reports import (MAX_STEPS, exact_bounds, is_report, report_bounds, report_results,
                                         step_kinds)
from tests import oracle, report_oracle, rings
from tests.settle_oracle import dense_input
from tests.support import D, M, N, S, STRANGE, Case, broken

Q = (('P', 'C'), (('job', ('P', 'T')), ('city', ('T', 'C'))))
R = (('query', Q), ('where', 0, 1, 'gaul'), ('minus', 0, 1), ('columns', 0, (1,)))
EMPTY = (S, ((), ()))
FULL = (('A', 'X'), (('full', ('A', 'X')),))
WIDE = (('A', 'B', 'X', 'Y'), (('full', ('A', 'X')), ('pay', (1, 'Y', 'B'))))


def drawn(seed, count, most=64):
    """Return triples of a schema, a report and a database with few choices."""
    pick = random.Random(seed)
    found = []
    while len(found) < count:
        if pick.random() < 0.5:
            schema = oracle.random_schema(pick, tables=3)
            database = oracle.random_database(pick, schema)
        else:
            schema, _, database = dense_input(pick)
        if len(oracle.choices(database)) <= most and max(map(len, (own for _, own in oracle.groups(database))),
                                                         default=0) <= 6:
            pool = [oracle.random_query(pick, schema, head=3) for _ in range(2)]
            report = report_oracle.drawn_report(
                pick, schema, lambda: pick.choice(pool) if pick.random() < 0.5 else oracle.random_query(pick, schema))
            found.append((schema, report, database))
    return found


INPUTS = drawn(151, 900)


class TestForm(Case):

    def test_samples(self):
        self.assertEqual(MAX_STEPS, 8)
        self.returns(True, is_report, S, R)
        self.returns((('name', 'name'),) * 3 + (('name',),), lambda: tuple(step_kinds(S, R, at) for at in range(4)))
        for report, kinds in (
                ((('query', ((), Q[1])),), ()), (R[:1] + (('columns', 0, ()),), ()), (R[:1] * 8, ('name', 'name')),
                (R[:1] + (('columns', 0, (1, 0)),), ('name', 'name')), (R[:1] + (('union', 0, 0),), ('name', 'name')),
                (R[:1] + (('both', 0, 0), ('minus', 1, 0)), ('name', 'name')),
                (R + (('union', 3, 3), ('columns', 3, ()), ('both', 5, 5), ('columns', 6, ())), ())):
            self.returns(True, is_report, S, report)
            self.returns(kinds, step_kinds, S, report, len(report) - 1)
        wide = (('query', WIDE), ('columns', 0, (3, 2, 1, 0)), ('where', 0, 2, 1), ('where', 1, 0, -5),
                ('columns', 1, (3,)))
        self.returns(True, is_report, N, wide)
        self.returns(('number', 'number', 'name', 'name'), step_kinds, N, wide, 1)
        self.returns(('name', 'name', 'number', 'number'), step_kinds, N, wide, 2)
        self.returns(('name',), step_kinds, N, wide, 4)

    def test_one_and_eight_steps(self):
        for count in range(1, 9):
            self.returns(True, is_report, S, R[:1] * count)
        for count in (0, 9, 10, 50):
            self.returns(False, is_report, S, R[:1] * count)

    def test_columns(self):
        base = (('query', WIDE),)
        for columns in ((), (0,), (3,), (0, 1, 2, 3), (3, 1), (2, 0, 1)):
            self.returns(True, is_report, N, base + (('columns', 0, columns),))
        for columns in ((4,), (-1,), (0, 0), (0, 1, 0), (0, 1, 2, 3, 0), (0, 1, 2, 3, 4), (True,), (0, True), (False,),
                        (None,), ('0',), ((0,),), [0], 0, None, {}, ([],), ({},)):
            self.returns(False, is_report, N, base + (('columns', 0, columns),))

    def test_where(self):
        base = (('query', FULL),)
        for column, value in ((0, 'ann'), (0, 'z'), (1, 5), (1, -(10 ** 9))):
            self.returns(True, is_report, N, base + (('where', 0, column, value),))
        for column, value in ((0, 5), (1, 'ann'), (0, 'A'), (0, 'Ann'), (1, True), (1, False), (1, 10 ** 9 + 1),
                              (0, None),
                              (2, 'ann'), (2, 5), (-1, 5), (True, 5), (False, 'ann'), (None, 'ann'), ([], 'ann'),
                              (0, [])):
            self.returns(False, is_report, N, base + (('where', 0, column, value),))

    def test_references(self):
        for word in ('union', 'both', 'minus'):
            for one in (0, 1, 2):
                for other in (0, 1, 2):
                    self.returns(True, is_report, S, R[:3] + ((word, one, other),))
            for one, other in ((3, 0), (0, 3), (4, 0), (0, 4), (-1, 0), (0, -1), (True, 0), (0, True), (None, 0),
                               (0, []),
                               ('0', 0), (0, {})):
                self.returns(False, is_report, S, R[:3] + ((word, one, other),))
            self.returns(False, is_report, S, ((word, 0, 0),))
            # The kinds must be equal, in their order.
            self.returns(False, is_report, S, R + ((word, 0, 3),))
            self.returns(False, is_report, S, R + ((word, 3, 2),))
            mixed = (('query', FULL), ('columns', 0, (1, 0)))
            self.returns(False, is_report, N, mixed + ((word, 0, 1),))
            self.returns(True, is_report, N, mixed + (('columns', 1, (1, 0)), (word, 0, 2)))
        for step in (('where', 1, 0, 'ann'), ('where', -1, 0, 'ann'), ('where', True, 0, 'ann'), ('columns', 1, ()),
                     ('columns', False, ()), ('columns', None, ()), ('columns', [], ())):
            self.returns(False, is_report, S, R[:1] + (step,))

    def test_any_value(self):
        for value in list(STRANGE) + list(broken(R)) + [
                R[::-1], R[1:], list(R), (list(R[0]),), R[0], (Q,), (('query',),), (('query', Q, 0),),
                (('query', Q[1]),),
                (('query', (('P', 'X'), Q[1])),), (('queries', Q),), R[:1] + (('where', 0, 0),), R[:1] + (('both', 0),),
                R[:1] + (('where', 0, 0, 'ann', 1),), R[:1] + (('columns', 0),), R[:1] + (('columns', 0, (), ()),),
                R[:1] + (('union', 0),), R[:1] + (('union', 0, 0, 0),), R[:1] + (('unions', 0, 0),), R[:1] + ((),),
                R[:1] + (('minus',),), R[:1] + ((None, 0, 0),), R[:1] + (([], 0, 0),), R[:1] + (({}, 0, 0),),
                R + (None,),
                R[:1] + (('query', 0),), (('query', FULL),), {0: R[0]}, 'query', ('query', Q)]:
            self.returns(False, is_report, S, value)
            self.fails(InvalidReport('why'), step_kinds, S, value, 0)
        numbers = (('query', FULL), ('where', 0, 1, 1), ('columns', 1, (1, 0)), ('both', 1, 0))
        self.returns(True, is_report, N, numbers)
        for value in broken(numbers):
            self.returns(False, is_report, N, value)

    def test_kinds_of_drawn_reports(self):
        for schema, report, _ in INPUTS:
            self.returns(True, is_report, schema, report)
            for at, kinds in enumerate(report_oracle.kinds_of(schema, report)):
                self.returns(kinds, step_kinds, schema, report, at)


class TestResults(Case):

    def test_samples(self):
        self.returns((('bob', 'eire'),), lambda: report_results(D, R, choice_at(D, 0))[2])
        self.returns(((('ann', 'gaul'), ('bob', 'gaul')), (('ann', 'gaul'), ('bob', 'gaul')), (), (('gaul',),)),
                     report_results, D, R, choice_at(D, 1))
        self.returns(((), (), (), ()), report_results, EMPTY, R, ())
        none = (('query', ((), Q[1])), ('columns', 0, ()), ('minus', 0, 1), ('union', 2, 0))
        self.returns((((),), ((),), (), ((),)), report_results, D, none, choice_at(D, 0))
        self.returns(((), (), (), ()), report_results, EMPTY, none, ())

    def test_every_choice(self):
        words = {}
        for schema, report, database in INPUTS:
            for choice, sets in report_oracle.by_choice(database, report).items():
                self.returns(tuple(map(report_oracle.ascending, sets)), report_results, database, report, choice)
                for step, rows in zip(report, sets):
                    words[step[0], bool(rows)] = words.get((step[0], bool(rows)), 0) + 1
        self.assertEqual(len(words), 12)
        self.assertGreater(min(words.values()), 100, words)

    def test_kinds_of_numbers(self):
        report = (('query', FULL), ('where', 0, 1, 1), ('columns', 0, (1,)))
        self.returns(((('ann', 0), ('ann', 1)), (('ann', 1),), ((0,), (1,))), report_results, M, report,
                     choice_at(M, 3))


class TestBounds(Case):

    def test_samples(self):
        self.returns(((), (('bob', 'eire'), ('bob', 'gaul'))), lambda: report_bounds(D, R)[2])
        self.returns(((), (('bob', 'eire'),)), lambda: exact_bounds(D, R)[2])
        for function in (report_bounds, exact_bounds):
            self.returns((((), ()),) * 4, function, EMPTY, R)

    def test_against_all_choices(self):
        seen = {}
        for schema, report, database in INPUTS:
            bounds = report_oracle.bounds(database, report)
            exact = report_oracle.exact(database, report)
            self.returns(bounds, report_bounds, database, report)
            self.returns(exact, exact_bounds, database, report)
            for step, (lower, upper), (least, most) in zip(report, bounds, exact):
                self.assertLessEqual(set(lower), set(least))
                self.assertLessEqual(set(most), set(upper))
                key = (step[0], (lower, upper) == (least, most), lower != upper)
                seen[key] = seen.get(key, 0) + 1
        for word in ('query', 'where', 'columns', 'union', 'both', 'minus'):
            self.assertGreater(seen[word, True, True], 10, seen)
        for word in ('columns', 'union', 'both', 'minus'):
            self.assertGreater(seen.get((word, False, True), 0), 3, seen)

    def test_queries_with_a_cycle(self):
        for count in (2, 3):
            database = rings.ring_database(rings.ring('a', count), rings.path('b', 2))
            report = (('query', rings.CYCLIC), ('where', 0, 0, 'a'), ('minus', 0, 1), ('columns', 2, ()))
            self.returns(report_oracle.bounds(database, report), report_bounds, database, report)
            self.returns(report_oracle.exact(database, report), exact_bounds, database, report)

    def test_too_many_for_a_query(self):
        """Certain answers of a query are asked, also where no other step uses it."""
        for database in (rings.LARGER, rings.LARGE, rings.ONE_LARGE, rings.ONE_SURE):
            for report in ((('query', rings.CYCLIC),), (('query', rings.ACYCLIC), ('query', rings.CYCLIC)),
                           (('query', rings.CYCLIC), ('query', rings.ACYCLIC), ('columns', 1, ()))):
                self.fails(TooMany(4096), report_bounds, database, report)
                self.fails(TooMany(4096), exact_bounds, database, report)
            report = (('query', rings.ACYCLIC), ('columns', 0, ()))
            lower = certain_answers(database, rings.ACYCLIC)
            upper = possible_answers(database, rings.ACYCLIC)
            self.returns(((lower, upper), (((),), ((),))), report_bounds, database, report)
        for database in (rings.EXACT, rings.EXACT_PATH):
            expected = certain_answers(database, rings.CYCLIC)
            self.returns(((expected, (('a',),)),), report_bounds, database, (('query', rings.CYCLIC),))

    def test_too_many_choices_of_the_database(self):
        self.assertEqual(count_choices(rings.EXACT), 4096)
        exact = exact_bounds(rings.EXACT, (('query', rings.CYCLIC), ('minus', 0, 0)))
        self.assertEqual(exact, (((), (('a',),)), ((), ())))
        letters = 'abcdefghijklm'
        for many, extra in ((12, ()), (13, ()), (12, (('a', 2),)), (11, (('a', 2), ('b', 2)))):
            rows = tuple(sorted([(one, at) for one in letters[:many] for at in (0, 1)] + list(extra)))
            database = ((('keyed', 1, ('name', 'number')),), (rows,))
            report = (('query', (('K',), (('keyed', ('K', 1)),))), ('query', (('X',), (('keyed', ('a', 'X')),))))
            if count_choices(database) <= 4096:
                keys = tuple((one,) for one in letters[:many])
                numbers = tuple((number,) for number in range(2))
                self.returns((((), keys), ((), numbers)), exact_bounds, database, report)
            else:
                # Also where no query of the report uses the groups.
                self.fails(TooMany(4096), exact_bounds, database, report)
                self.fails(TooMany(4096), exact_bounds, database, report[1:])
            self.assertEqual(report_bounds(database, report)[0], ((), tuple((one,) for one in letters[:many])))


class TestErrors(Case):

    def test_the_order_of_the_errors(self):
        for schema in list(broken(S)) + list(STRANGE):
            self.fails(InvalidSchema('why'), is_report, schema, R)
            self.fails(InvalidSchema('why'), step_kinds, schema, None, None)
        choice = choice_at(D, 0)
        for database in list(broken(D)) + list(STRANGE):
            self.fails(InvalidDatabase('why'), report_results, database, None, None)
            self.fails(InvalidDatabase('why'), report_bounds, database, R)
            self.fails(InvalidDatabase('why'), exact_bounds, database, None)
        for report in list(broken(R)) + list(STRANGE):
            self.fails(InvalidReport('why'), step_kinds, S, report, None)
            self.fails(InvalidReport('why'), report_results, D, report, None)
            self.fails(InvalidReport('why'), report_bounds, D, report)
            self.fails(InvalidReport('why'), exact_bounds, D, report)
        for other in list(broken(choice)) + list(STRANGE):
            self.fails(InvalidChoice('why'), report_results, D, R, other)

    def test_numbers_of_steps(self):
        for step in (-1, 4, 10 ** 39, True, False, None, '0', (0,), [0], {}, ()):
            self.fails(InvalidNumber(step), step_kinds, S, R, step)
        self.fails(InvalidNumber(1), step_kinds, S, R[:1], 1)

    def test_too_many_only_where_all_arguments_are_valid(self):
        for function in (report_bounds, exact_bounds):
            self.fails(InvalidReport('why'), function, rings.LARGE, (('query', rings.CYCLIC), ('where', 0, 0, 1)))
        report = (('query', rings.CYCLIC),)
        self.fails(InvalidChoice('why'), report_results, rings.LARGE, report, ())
        choice = choice_at(rings.LARGE, 0)
        # The results in one choice have no limit.
        self.returns(((('a',),),), report_results, rings.LARGE, report, choice)

    def test_the_choice_belongs_to_the_database(self):
        database = make_database(S, (('job', ('ann', 'lyon')),))
        self.fails(InvalidChoice('why'), report_results, database, R, choice_at(D, 0))
