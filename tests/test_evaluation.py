"""The truth of formulas (6.3)."""

import itertools
import random

from rightrecord.errors import InvalidBinding, InvalidDatabase, InvalidFormula
from rightrecord.formula.evaluation import evaluate
from rightrecord.formula.formulas import free_variables
from tests import formula_oracle
from tests.support import D, M, S, STRANGE, Case, broken
from tests.test_formulas import TRUE, exists, huge, nested, random_formulas

EMPTY = (S, ((), ()))
BINDING = {'P': 'ann', 'T': 1, 'Z': 'rome'}


class TestEvaluate(Case):

    def test_constants_and_lists(self):
        false = ('false',)
        for formula, expected in ((TRUE, True), (false, False), (('and', ()), True), (('or', ()), False),
                                  (('not', TRUE), False), (('not', false), True), (('and', (TRUE, false)), False),
                                  (('and', (TRUE, TRUE)), True), (('or', (false, TRUE)), True),
                                  (('or', (false, false)), False), (('or', (false,) * 7 + (TRUE,)), True)):
            self.returns(expected, evaluate, D, formula, {})
            self.returns(expected, evaluate, EMPTY, formula, {'P': 1})

    def test_equality(self):
        for one, other in itertools.product(('ann', 'bob', 0, 1, -1, 10 ** 9), repeat=2):
            same = repr(one) == repr(other)
            for terms, binding in (((one, other), {}), (('X', other), {'X': one}), (('X', 'Y'), {'X': one, 'Y': other})):
                self.returns(same, evaluate, D, ('equal',) + terms, binding)
                self.returns(not same, evaluate, D, ('unequal',) + terms, binding)
        self.returns(True, evaluate, D, ('equal', 'X', 'X'), {'X': 3})

    def test_quantifiers(self):
        in_nice = ('exists', ('T',), 'job', ('P', 'T'), ('equal', 'T', 'nice'))
        self.returns(True, evaluate, D, in_nice, {'P': 'ann'})
        self.returns(False, evaluate, D, in_nice, {'P': 'bob'})
        self.returns(False, evaluate, D, in_nice, {'P': 7})
        all_in = ('forall', ('T',), 'job', ('P', 'T'), ('unequal', 'T', 'cork'))
        self.returns(True, evaluate, D, all_in, {'P': 'ann'})
        self.returns(False, evaluate, D, all_in, {'P': 'bob'})
        self.returns(True, evaluate, D, all_in, {'P': 'eve'})
        # Nothing fits: "exists" is false and "forall" true, whatever is inside.
        for inner, (word, expected) in itertools.product((TRUE, ('false',)), (('exists', False), ('forall', True))):
            self.returns(expected, evaluate, EMPTY, (word, ('P', 'T'), 'job', ('P', 'T'), inner), {})
            self.returns(expected, evaluate, D, (word, ('T',), 'job', ('eve', 'T'), inner), {})
            self.returns(expected, evaluate, D, (word, ('T',), 'job', (5, 'T'), inner), {})
            self.returns(expected, evaluate, D, (word, ('T',), 'job', ('T', 'T'), inner), {})

    def test_all_records_of_the_table_count(self):
        """ann has two records: each choice has one of them, the formula sees both."""
        both = ('and', tuple(('exists', (), 'job', ('ann', town), TRUE) for town in ('lyon', 'nice')))
        self.returns(True, evaluate, D, both, {})

    def test_a_variable_twice_among_the_terms(self):
        database = (S, ((), (('ann', 'ann'), ('ann', 'bob'), ('bob', 'eve'))))
        self.returns(True, evaluate, database, ('exists', ('P',), 'job', ('P', 'P'), ('equal', 'P', 'ann')), {})
        self.returns(True, evaluate, database, ('forall', ('P',), 'job', ('P', 'P'), ('equal', 'P', 'ann')), {})
        self.returns(False, evaluate, database, ('exists', ('P',), 'job', ('P', 'P'), ('equal', 'P', 'bob')), {})
        self.returns(True, evaluate, database, ('exists', (), 'job', ('P', 'P'), TRUE), {'P': 'ann'})
        self.returns(False, evaluate, database, ('exists', (), 'job', ('P', 'P'), TRUE), {'P': 'bob'})
        mixed = (('mix', 0, ('name', 'number')),), ((('ann', 1),),)
        self.returns(False, evaluate, mixed, ('exists', ('X',), 'mix', ('X', 'X'), TRUE), {})

    def test_bound_again(self):
        inner = ('exists', ('T',), 'city', ('T', 'eire'), ('equal', 'T', 'cork'))
        formula = ('exists', ('T',), 'job', ('P', 'T'), ('and', (inner, ('equal', 'T', 'nice'))))
        self.returns(True, evaluate, D, formula, {'P': 'ann'})
        # The binding of a variable that is only bound inside is not used.
        self.returns(True, evaluate, D, formula, {'P': 'ann', 'T': 'rome', 'X': 0})
        turned = ('exists', ('T',), 'job', ('P', 'T'), ('and', (('equal', 'T', 'nice'), inner)))
        self.returns(True, evaluate, D, turned, {'P': 'ann'})
        # A term of the inner quantifier that it does not bind has the value of the outer one.
        linked = ('forall', ('T',), 'job', ('P', 'T'), ('exists', ('C',), 'city', ('T', 'C'), ('equal', 'C', 'gaul')))
        self.returns(True, evaluate, D, linked, {'P': 'ann'})
        self.returns(False, evaluate, D, linked, {'P': 'bob'})

    def test_tables_with_numbers(self):
        self.returns(True, evaluate, M, ('exists', ('X',), 'rate', ('X',), ('equal', 'X', 5)), {})
        self.returns(False, evaluate, M, ('exists', ('X',), 'rate', ('X',), ('equal', 'X', 2)), {})
        self.returns(True, evaluate, M, ('exists', ('P', 'X'), 'pay', ('X', 'X', 'P'), ('equal', 'P', 'ann')), {})
        self.returns(False, evaluate, M, ('exists', ('P', 'X'), 'pay', ('X', 'X', 'P'), ('equal', 'P', 'bob')), {})

    def test_against_the_definition(self):
        pick = random.Random(6)
        results = []
        for schema, formula, database in random_formulas(5, 700, 5):
            for _ in range(3):
                binding = {variable: pick.choice(formula_oracle.VALUES) for variable in formula_oracle.VARIABLES}
                expected = formula_oracle.truth(formula, database, binding)
                self.returns(expected, evaluate, database, formula, binding)
                # Only the free variables count, in any order.
                needed = {variable: binding[variable] for variable in free_variables(schema, formula)[::-1]}
                self.returns(expected, evaluate, database, formula, needed)
                results.append((expected, needed == {}))
        for kind in itertools.product((True, False), repeat=2):
            self.assertGreater(results.count(kind), 200)

    def test_eight_quantifiers_within_one_another(self):
        self.returns(True, evaluate, D, nested(9, exists), {'P': 'ann'})
        self.returns(False, evaluate, D, nested(9, exists), {'P': 'eve'})
        letters = 'ABCDEFGH'
        rows = tuple((at,) for at in range(40))
        wide = ((('wide', 1, ('number',)),), (rows,))
        formula = TRUE
        for one in letters:
            formula = ('forall', (one,), 'wide', (one,), formula)
        # Each of them is worked out once, not once for each value of the variables around it.
        self.returns(True, evaluate, wide, formula, {})
        self.returns(False, evaluate, wide, ('not', formula), {})


class TestErrors(Case):

    def test_an_invalid_database_comes_first(self):
        for database in list(broken(D)) + list(STRANGE):
            self.fails(InvalidDatabase('why'), evaluate, database, TRUE, {})
            self.fails(InvalidDatabase('why'), evaluate, database, None, None)

    def test_an_invalid_formula_comes_next(self):
        formula = exists(('equal', 'T', 1))
        for value in list(broken(formula)) + list(STRANGE) + [nested(21), nested(10, exists), huge()]:
            self.fails(InvalidFormula('why'), evaluate, D, value, BINDING)
            self.fails(InvalidFormula('why'), evaluate, D, value, None)

    def test_invalid_bindings(self):
        formula = ('and', (exists(('equal', 'T', 1)), ('equal', 'Z', 'P')))
        self.returns(False, evaluate, D, formula, BINDING)
        incomplete = [{}, {'P': 'ann'}, {'Z': 'ann'}, {'P': 'ann', 'T': 1}]
        values = [None, True, 1, 'P', (), [], (('P', 'ann'),), [('P', 'ann'), ('Z', 'rome')]]
        for name in ('ann', 'p', '', 'PPPPP', 1, True, None, ('P',), (), 'P1'):
            values.append({**BINDING, name: 'ann'})
        for worth in ('P', 'Ann', '', True, False, None, 10 ** 9 + 1, -(10 ** 9) - 1, (), ('ann',), ['ann'], {}, [[]]):
            for variable in ('P', 'T', 'Z', 'NEW'):
                values.append({**BINDING, variable: worth})
        for binding in incomplete + values:
            self.fails(InvalidBinding('why'), evaluate, D, formula, binding)
        # A formula without free variables needs no variable, but those that there are must be right.
        for binding in incomplete:
            self.returns(True, evaluate, D, TRUE, binding)
        for binding in values:
            self.fails(InvalidBinding('why'), evaluate, D, TRUE, binding)
