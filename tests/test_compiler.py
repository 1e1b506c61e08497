"""Compiled queries (7.1), and the main guarantee as far as it speaks of them (0.8)."""

import itertools
import random

from rightrecord.attack.graphs import is_cycle
from rightrecord.data.choices import choice_at, count_choices
from rightrecord.data.databases import with_record, without_record
from rightrecord.errors import CyclicQuery, InvalidDatabase, InvalidQuery, InvalidSchema
from rightrecord.formula.compiler import certain_by_formula, compile_query
from rightrecord.formula.evaluation import evaluate
from rightrecord.formula.formulas import free_variables, is_formula, quantifier_count
from rightrecord.query.matching import answers_in, possible_answers
from tests import formula_oracle, oracle
from tests.support import D, S, STRANGE, Case, broken
from tests.test_graphs import PAIRS, ring

Q = (('P', 'C'), (('job', ('P', 'T')), ('city', ('T', 'C'))))
U = (('left', 1, ('name', 'name')), ('right', 1, ('name', 'name')))
W = ((), (('left', ('X', 'Y')), ('right', ('Y', 'X'))))
INPUTS = [each for each in oracle.random_inputs(31, 500) + oracle.random_inputs(32, 300, kinds=('name',), tables=5)
          if len(oracle.choices(each[2])) <= 32 and not oracle.cycles(each[1], oracle.edges(each[0], each[1]))]


class Compiled(Case):
    """Checks of a compiled query."""

    def compiled(self, schema, query):
        formula = self.stable(compile_query, schema, query)
        self.assertTrue(is_formula(schema, formula), formula)
        self.assertLessEqual(set(free_variables(schema, formula)), set(query[0]))
        self.assertNotIn('not', formula_oracle.words(formula))
        self.assertLessEqual(quantifier_count(schema, formula), 2 * len(query[1]))
        return formula

    def check(self, schema, query, formula, database, answers):
        """The formula is true exactly for the answers that hold in every choice."""
        held = oracle.answers_by_choice(query, database).values()
        certain = []
        for answer in answers:
            expected = all(answer in some for some in held)
            self.returns(expected, evaluate, database, formula, dict(zip(query[0], answer)))
            certain += [answer] * expected
        self.returns(tuple(certain), certain_by_formula, database, query)
        return certain


class TestCompiler(Compiled):

    def test_the_formula_of_the_document(self):
        stated = ('exists', ('T',), 'job', ('P', 'T'), ('forall', ('T',), 'job', ('P', 'T'), (
            'exists', ('X',), 'city', ('T', 'X'), ('forall', ('X',), 'city', ('T', 'X'), ('equal', 'X', 'C')))))
        self.assertTrue(is_formula(S, stated))
        formula = self.compiled(S, Q)
        for answer in itertools.product(('ann', 'bob', 'eve', 'lyon'), ('gaul', 'eire', 'ann')):
            binding = dict(zip('PC', answer))
            self.returns(answer == ('ann', 'gaul'), evaluate, D, formula, binding)
            self.returns(answer == ('ann', 'gaul'), evaluate, D, stated, binding)
        self.returns((('ann', 'gaul'),), certain_by_formula, D, Q)

    def test_against_all_choices(self):
        certain = open_ = 0
        for schema, query, database in INPUTS:
            formula = self.compiled(schema, query)
            found = self.check(schema, query, formula, database, oracle.domains(schema, query))
            certain += len(found)
            open_ += len(oracle.answers(oracle.matches(query, oracle.all_rows(database)))) - len(found)
        self.assertGreater(min(certain, open_), 150)

    def test_one_formula_on_many_databases(self):
        pick = random.Random(33)
        for schema, query, database in INPUTS[:150]:
            formula = compile_query(schema, query)
            database = (schema, tuple(rows[:1] for rows in database[1]))
            for _ in range(5):
                name, _, kinds = pick.choice(schema)
                record = tuple(pick.choice({'name': ['u', 'v', 'w'], 'number': [0, 1, 2]}[kind]) for kind in kinds)
                change = pick.choice((with_record, with_record, without_record))
                if count_choices(change(database, name, record)) <= 32:
                    database = change(database, name, record)
                    self.check(schema, query, formula, database, oracle.domains(schema, query))

    def test_chosen_databases(self):
        """In a database without conflicts the certain answers are the possible ones."""
        for schema, query, database in INPUTS[:150]:
            for choice in oracle.choices(database)[:4]:
                rows = oracle.chosen_rows(database, choice)
                chosen = (schema, tuple(tuple(sorted(rows[table[0]])) for table in schema))
                self.returns(oracle.answers(oracle.matches(query, rows)), certain_by_formula, chosen, query)

    def test_four_atoms_with_sixteen_variables(self):
        letters = tuple('ABCDEFGHIJKLMNOP')
        for size in range(5):
            schema = tuple((name, size, ('number',) * 4) for name in 'abcd')
            atoms = tuple((name, letters[at * 4:at * 4 + 4]) for at, name in enumerate('abcd'))
            for head in ((), ('A', 'F', 'K', 'P'), ('P', 'D')):
                formula = self.compiled(schema, (head, atoms))
                database = (schema, (((1, 2, 3, 4),),) * 4)
                answer = tuple(dict(zip(letters, (1, 2, 3, 4) * 4))[one] for one in head)
                self.returns((answer,), certain_by_formula, database, (head, atoms))
                self.returns(True, evaluate, database, formula, dict(zip(head, answer)))
                self.returns((), certain_by_formula, (schema, ((), ) * 4), (head, atoms))

    def test_long_names_of_variables(self):
        """The variables that the formula adds are none of the query's, however these are called."""
        names = ('A', 'B', 'AA', 'C', 'D', 'E', 'F', 'G', 'H', 'I', 'J', 'K', 'L', 'M', 'N', 'Z')
        schema = tuple((name, 1, ('name',) * 4) for name in 'abcd')
        atoms = tuple((name, names[at * 4:at * 4 + 4]) for at, name in enumerate('abcd'))
        formula = self.compiled(schema, (names[:4], atoms))
        rows = (('u', 'v', 'u', 'v'), ('v', 'u', 'v', 'u'), ('v', 'u', 'v', 'w'))
        database = (schema, (rows,) * 4)
        self.check(schema, (names[:4], atoms), formula, database, itertools.product('uvw', repeat=4))

    def test_wide_tables_against_all_choices(self):
        pick = random.Random(34)
        checked = certain = 0
        for _ in range(250):
            schema = oracle.random_schema(pick, kinds=('name',), columns=4)
            atoms = tuple((name, tuple(pick.choice('ABCDEFu') for _ in kinds)) for name, _, kinds in schema)
            free = sorted(oracle.variables(((), atoms)))
            query = (tuple(pick.sample(free, pick.randint(0, min(2, len(free))))), atoms)
            if oracle.cycles(query, oracle.edges(schema, query)):
                continue
            rows = [sorted({tuple(pick.choice('uuuuv') for _ in kinds) for _ in range(3)}) for _, _, kinds in schema]
            database = (schema, tuple(map(tuple, rows)))
            formula = self.compiled(schema, query)
            certain += len(self.check(schema, query, formula, database, oracle.domains(schema, query)))
            checked += 1
        self.assertGreater(checked, 150)
        self.assertGreater(certain, 40)

    def test_a_variable_twice_in_an_atom(self):
        schema = (('t', 2, ('name',) * 4),)
        rows = (('u', 'u', 'u', 'v'), ('u', 'u', 'u', 'w'), ('v', 'u', 'u', 'u'), ('v', 'v', 'u', 'u'),
                ('w', 'w', 'w', 'w'))
        for terms in itertools.product('ABCu', repeat=4):
            query = ((), (('t', terms),))
            formula = self.compiled(schema, query)
            for left in (rows, rows[:3], rows[:4], rows[3:4], rows[1:3]):
                self.check(schema, query, formula, (schema, (left,)), [()])
            for head in sorted(oracle.variables(query)):
                formula = self.compiled(schema, ((head,), query[1]))
                self.check(schema, ((head,), query[1]), formula, (schema, (rows,)), [('u',), ('v',), ('w',)])

    def test_a_table_without_a_key_and_one_of_nothing_but_a_key(self):
        schema = (('one', 0, ('number', 'number')), ('set', 2, ('number', 'number')))
        for atoms in itertools.permutations((('one', ('X', 'Y')), ('set', ('Y', 'X')))):
            for head in ((), ('X',), ('Y', 'X')):
                formula = self.compiled(schema, (head, atoms))
                for one in (((1, 2), (1, 3)), ((1, 2),), (), ((1, 2), (2, 1), (3, 1))):
                    for pairs in (((2, 1), (3, 1)), ((1, 2), (2, 1)), ()):
                        answers = list(itertools.product((1, 2, 3), repeat=len(head)))
                        self.check(schema, (head, atoms), formula, (schema, (one, pairs)), answers)

    def test_a_group_of_six_records(self):
        towns = tuple(('ann', town) for town in ('a', 'b', 'c', 'd', 'e', 'f'))
        cities = tuple((town, 'gaul') for _, town in towns)
        self.returns((('ann', 'gaul'),), certain_by_formula, (S, (cities, towns)), Q)
        self.returns((), certain_by_formula, (S, (cities[:-1], towns)), Q)
        self.returns((), certain_by_formula, (S, (cities[:-1] + (('f', 'eire'),), towns)), Q)
        self.returns((), certain_by_formula, (S, (cities + (('f', 'hell'),), towns)), Q)
        self.returns((('ann',),), certain_by_formula, (S, (cities + (('f', 'hell'),), towns)), (('P',), Q[1]))

    def test_twenty_conflicting_groups(self):
        rows = tuple((letter, at) for letter in 'abcdefghijklmnopqrst' for at in (0, 1))
        database = ((('keyed', 1, ('name', 'number')),), (rows,))
        letters = tuple((letter,) for letter in 'abcdefghijklmnopqrst')
        self.returns(letters, certain_by_formula, database, (('K',), (('keyed', ('K', 'X')),)))
        self.returns((), certain_by_formula, database, (('K',), (('keyed', ('K', 1)),)))
        self.returns((), certain_by_formula, database, (('K', 'X'), (('keyed', ('K', 'X')),)))

    def test_the_empty_database(self):
        for schema, query, _ in INPUTS[:60]:
            empty = (schema, ((),) * len(schema))
            self.returns((), certain_by_formula, empty, query)
            for answer in oracle.domains(schema, query):
                self.returns(False, evaluate, empty, compile_query(schema, query), dict(zip(query[0], answer)))

    def test_certain_answers_hold_in_every_choice(self):
        for schema, query, database in INPUTS[:120]:
            for answer in certain_by_formula(database, query):
                self.assertIn(answer, possible_answers(database, query))
                for number in range(count_choices(database)):
                    self.assertIn(answer, answers_in(database, query, choice_at(database, number)))


class TestErrors(Compiled):

    def cycle_of(self, function, *arguments):
        kept = []
        for _ in range(2):
            with self.assertRaises(CyclicQuery) as caught:
                function(*arguments)
            kept.append(vars(caught.exception))
        self.assertEqual(kept[0], kept[1])
        self.assertEqual(list(kept[0]), ['cycle'])
        return kept[0]['cycle']

    def test_cycles(self):
        database = (U, ((('u', 'v'),), (('v', 'u'),)))
        self.assertTrue(is_cycle(U, W, self.cycle_of(compile_query, U, W)))
        self.assertTrue(is_cycle(U, W, self.cycle_of(certain_by_formula, database, W)))
        for count in (2, 3, 4):
            self.assertTrue(is_cycle(PAIRS, ring(count), self.cycle_of(compile_query, PAIRS, ring(count))))
            self.assertTrue(is_cycle(PAIRS, ring(count),
                                     self.cycle_of(certain_by_formula, (PAIRS, ((),) * 4), ring(count))))
        for schema, query, database in oracle.cyclic_inputs(35, 100):
            self.assertTrue(is_cycle(schema, query, self.cycle_of(compile_query, schema, query)))
            self.assertTrue(is_cycle(schema, query, self.cycle_of(certain_by_formula, database, query)))
        # With X in the head there is no cycle.
        self.compiled(U, (('X',), W[1]))

    def test_an_invalid_schema_or_database_comes_first(self):
        for query in (Q, W, None, [], ((), ())):
            for schema in list(broken(S)) + list(STRANGE):
                self.fails(InvalidSchema('why'), compile_query, schema, query)
            for database in list(broken(D)) + list(STRANGE):
                self.fails(InvalidDatabase('why'), certain_by_formula, database, query)

    def test_an_invalid_query_comes_next(self):
        for query in list(broken(Q)) + list(STRANGE) + [W, (('P', 'P'), Q[1]), ((), Q[1] + Q[1])]:
            self.fails(InvalidQuery('why'), compile_query, S, query)
            self.fails(InvalidQuery('why'), certain_by_formula, D, query)
        for query in broken(W):
            self.fails(InvalidQuery('why'), compile_query, U, query)
