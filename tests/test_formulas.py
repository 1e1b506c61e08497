"""Formulas, their variables and sizes, and negations (6.1, 6.2)."""

import random

from rightrecord.errors import InvalidFormula, InvalidSchema
from rightrecord.formula import formulas
from rightrecord.formula.formulas import (formula_size, free_variables, is_formula, push_negations,
                                          quantifier_count)
from tests import formula_oracle, oracle
from tests.support import DEEP, N, S, STRANGE, Case, broken

TRUE = ('true',)
FUNCTIONS = (free_variables, formula_size, quantifier_count, push_negations)
SAMPLES = (
    TRUE, ('false',), ('equal', 'A', 'B'), ('unequal', 1, 'ann'), ('equal', 0, 0), ('not', TRUE), ('and', ()),
    ('or', ()), ('and', (TRUE,)), ('or', (TRUE, ('equal', 'X', -5))), ('exists', (), 'job', ('P', 'T'), TRUE),
    ('exists', ('T',), 'job', ('P', 'T'), TRUE), ('forall', ('P', 'T'), 'job', ('T', 'P'), ('equal', 'P', 'T')),
    ('forall', ('P',), 'city', ('P', 'P'), ('not', ('equal', 'P', 'Q'))),
    # Values and variables of any kind may stand in any column.
    ('exists', ('T',), 'job', (7, 'T'), TRUE), ('exists', (), 'job', (1, 0), ('equal', 'AAAA', 'ABCDEFG'.lower())))


def nested(count, around=lambda formula: ('not', formula)):
    """Return a formula of so many formulas within one another."""
    formula = TRUE
    for _ in range(count - 1):
        formula = around(formula)
    return formula


def exists(formula):
    return 'exists', ('T',), 'job', ('P', 'T'), formula


def random_formulas(seed, count, deep=4):
    pick = random.Random(seed)
    found = []
    for _ in range(count):
        schema = oracle.random_schema(pick)
        found.append((schema, formula_oracle.random_formula(pick, schema, deep), oracle.random_database(pick, schema)))
    return found


class TestForm(Case):

    def test_constants(self):
        self.assertEqual((formulas.MAX_DEPTH, formulas.MAX_PARTS, formulas.MAX_QUANTIFIERS), (20, 200, 8))

    def test_formulas(self):
        for formula in SAMPLES:
            self.returns(True, is_formula, S, formula)
        for schema, formula, _ in random_formulas(1, 300):
            self.returns(True, is_formula, schema, formula)

    def test_broken_formulas(self):
        for formula in SAMPLES:
            for value in broken(formula):
                self.returns(False, is_formula, S, value)
        deep = ('and', (('not', exists(('or', (('equal', 1, 'A'), TRUE)))),))
        self.returns(True, is_formula, S, deep)
        for value in broken(deep):
            self.returns(False, is_formula, S, value)
        for value in STRANGE + ('true', ['true'], ('true', ()), ('true', 1), (TRUE,), ({},), ([], TRUE), (None, TRUE)):
            self.returns(False, is_formula, S, value)

    def test_the_words_in_the_place_of_one_another(self):
        lists = ('and', 'or')
        for words in (('true', 'false'), ('equal', 'unequal'), ('not',), lists, ('exists', 'forall')):
            for formula in [sample for sample in SAMPLES if sample[0] in words]:
                for word in formula_oracle.DEEPER.keys() | {'true', 'false', 'equal', 'unequal', 'some', '', 'True'}:
                    # A tuple of no or of several formulas is no formula, and a formula is no tuple of formulas.
                    self.returns(word in words, is_formula, S, (word,) + formula[1:])
        self.returns(False, is_formula, S, ('not', ()))
        self.returns(False, is_formula, S, ('not', (TRUE,)))
        self.returns(False, is_formula, S, ('and', TRUE))
        self.returns(False, is_formula, S, ('and', TRUE, TRUE))
        self.returns(False, is_formula, S, ('true', TRUE))

    def test_depth(self):
        for around in (lambda formula: ('not', formula), lambda formula: ('and', (formula,)),
                       lambda formula: ('or', (TRUE, formula))):
            for count in (1, 2, 19, 20):
                self.returns(True, is_formula, S, nested(count, around))
            for count in (21, 22, 100):
                self.returns(False, is_formula, S, nested(count, around))
        self.returns(False, is_formula, S, ('and', (TRUE, nested(20))))
        self.returns(True, is_formula, S, ('and', (TRUE, nested(19), nested(19))))
        very = nested(100000)
        self.assertIs(is_formula(S, very), False)

    def test_quantifiers(self):
        self.returns(True, is_formula, S, nested(9, exists))
        self.returns(False, is_formula, S, nested(10, exists))
        self.returns(True, is_formula, S, ('and', (nested(9, exists), nested(9, exists))))
        self.returns(16, quantifier_count, S, ('and', (nested(9, exists), nested(9, exists))))
        mixed = nested(5, lambda formula: ('forall', (), 'city', ('T', 'T'), ('not', exists(formula))))
        self.returns(True, is_formula, S, mixed)
        self.returns(False, is_formula, S, exists(mixed))
        self.returns(False, is_formula, S, exists(('or', (TRUE, mixed))))

    def test_lists(self):
        for word in ('and', 'or'):
            for count in (0, 1, 8):
                self.returns(True, is_formula, S, (word, (TRUE,) * count))
                self.returns(count + 1, formula_size, S, (word, (TRUE,) * count))
            for count in (9, 10, 300):
                self.returns(False, is_formula, S, (word, (TRUE,) * count))
            self.returns(False, is_formula, S, (word, [TRUE]))
            self.returns(False, is_formula, S, (word, {}))

    def test_parts(self):
        eight = ('and', (TRUE,) * 8)
        large = ('and', (('and', (eight,) * 8),) * 2 + (('and', (eight,) * 4), ('and', (TRUE,) * 8), ('and', ())))
        count = formula_oracle.size(large)
        for many in (count, 199, 200):
            formula = grown(large, many)
            self.assertEqual(formula_oracle.size(formula), many)
            self.returns(True, is_formula, S, formula)
            self.returns(many, formula_size, S, formula)
        for many in (201, 202):
            formula = grown(large, many)
            self.assertEqual(formula_oracle.size(formula), many)
            self.returns(False, is_formula, S, formula)
        # A small value may stand for a huge formula.
        huge = nested(19, lambda formula: ('or', (formula,) * 8))
        self.assertIs(is_formula(S, huge), False)

    def test_variables_of_quantifiers(self):
        for variables in (('A',), ('P', 'A'), ('T', 'P'), ('T', 'T'), ['T'], 'T', ('',), (1,), ('ann',), ('TTTTT',),
                          ('P', 'T', 'T'), ('t',), None, {}, ('P', ['T']), ('P', 'T', 1), ((), ()), (None,)):
            self.returns(False, is_formula, S, ('exists', variables, 'job', ('P', 'T'), TRUE))
        for variables in ((), ('P',), ('T',), ('P', 'T')):
            self.returns(True, is_formula, S, ('forall', variables, 'job', ('P', 'T'), TRUE))
        self.returns(False, is_formula, S, ('forall', (1,), 'job', (1, 'T'), TRUE))
        self.returns(False, is_formula, S, ('forall', ('ann',), 'job', ('ann', 'T'), TRUE))

    def test_terms_and_tables_of_quantifiers(self):
        for terms in ((), ('T',), ('T', 'T', 'T'), ['P', 'T'], ('P', True), ('P', False), ('P', None), ('P', ('T',)),
                      ('P', ['T']), ('P', 10 ** 9 + 1), ('P', 'Ann'), 'PT', None, {}, ({}, 'T')):
            self.returns(False, is_formula, S, ('exists', (), 'job', terms, TRUE))
        for table in ('jobs', '', 'P', None, True, 1, [], {}, ('job',), 'JOB'):
            self.returns(False, is_formula, S, ('exists', (), table, ('P', 'T'), TRUE))
        self.returns(True, is_formula, N, ('exists', (), 'rate', ('R',), TRUE))
        self.returns(False, is_formula, S, ('exists', (), 'rate', ('R',), TRUE))
        for term in (True, False, None, [], {}, ('A',), 'AAAAA', 'aaaaaaaaa', 10 ** 9 + 1, -(10 ** 9) - 1, '', DEEP):
            self.returns(False, is_formula, S, ('equal', 'A', term))
            self.returns(False, is_formula, S, ('unequal', term, 1))
        self.returns(True, is_formula, S, ('equal', 10 ** 9, -(10 ** 9)))


def grown(formula, count):
    """Return the formula with negations in front of its first leaf, so that it contains so many formulas."""
    missing = count - formula_oracle.size(formula)
    spread = [missing // 8 + (at < missing % 8) for at in range(8)]
    leaves = ('and', tuple(nested(1 + more) for more in spread))
    # The fourth entry has eight leaves of its own.
    return ('and', formula[1][:3] + (leaves,) + formula[1][4:])


class TestVariables(Case):

    def test_free_variables(self):
        self.returns((), free_variables, S, TRUE)
        self.returns(('A', 'B'), free_variables, S, ('equal', 'B', 'A'))
        self.returns(('A',), free_variables, S, ('unequal', 'A', 'ann'))
        self.returns(('P',), free_variables, S, exists(TRUE))
        self.returns(('P', 'T'), free_variables, S, ('exists', (), 'job', ('P', 'T'), TRUE))
        self.returns((), free_variables, S, ('exists', ('P', 'T'), 'job', ('P', 'T'), ('equal', 'P', 'T')))
        # The variable is bound within the quantifier, and free beside it.
        self.returns(('P', 'T'), free_variables, S, ('or', (exists(('equal', 'T', 1)), ('equal', 'T', 1))))
        # Bound again inside; a term of the inner quantifier that it does not bind belongs to the outer one.
        self.returns(('P',), free_variables, S, exists(exists(('equal', 'T', 1))))
        self.returns(('P',), free_variables, S, exists(('forall', (), 'city', ('T', 'T'), TRUE)))
        self.returns(('T',), free_variables, S,
                     ('exists', ('P',), 'job', ('P', 'T'), ('forall', ('T',), 'city', ('P', 'T'), TRUE)))
        self.returns(('AA', 'B', 'Z'), free_variables, S, ('and', (('equal', 'Z', 'B'), ('equal', 'AA', 'B'))))

    def test_against_the_definition(self):
        for schema, formula, _ in random_formulas(2, 600, 5):
            self.returns(tuple(sorted(formula_oracle.free(formula))), free_variables, schema, formula)
            self.returns(formula_oracle.size(formula), formula_size, schema, formula)
            self.returns(formula_oracle.quantifiers(formula), quantifier_count, schema, formula)

    def test_sizes(self):
        self.returns(1, formula_size, S, TRUE)
        self.returns(20, formula_size, S, nested(20))
        self.returns(0, quantifier_count, S, nested(20))
        self.returns(3, quantifier_count, S, ('or', (exists(exists(TRUE)), TRUE, exists(('and', ())))))


class TestNegations(Case):

    def test_samples(self):
        for formula, expected in (
                (('not', TRUE), ('false',)), (('not', ('false',)), TRUE), (('not', ('not', ('equal', 'A', 1))),
                                                                           ('equal', 'A', 1)),
                (('not', ('and', ())), ('or', ())), (('not', ('or', ())), ('and', ())),
                (('not', ('equal', 'A', 1)), ('unequal', 'A', 1)), (('not', ('unequal', 'A', 1)), ('equal', 'A', 1))):
            self.returns(expected, push_negations, S, formula)

    def test_all_that_is_asked_for(self):
        for schema, formula, database in random_formulas(3, 500, 6):
            pushed = self.stable(push_negations, schema, formula)
            self.assertTrue(is_formula(schema, pushed))
            self.assertNotIn('not', formula_oracle.words(pushed))
            self.assertEqual(formula_oracle.quantifiers(pushed), formula_oracle.quantifiers(formula))
            self.assertLessEqual(formula_oracle.size(pushed), formula_oracle.size(formula))
            self.assertLessEqual(formula_oracle.depth(pushed), formula_oracle.depth(formula))
            self.assertLessEqual(formula_oracle.free(pushed), formula_oracle.free(formula))

    def test_the_value_stays(self):
        results = []
        for schema, formula, database in random_formulas(4, 300):
            pushed = push_negations(schema, formula)
            for values in (('u', 1, 'v', 0, 'w'), ('v', 'v', 1, 1, 0)):
                binding = dict(zip(formula_oracle.VARIABLES, values))
                expected = formula_oracle.truth(formula, database, binding)
                self.assertIs(formula_oracle.truth(pushed, database, binding), expected)
                results.append(expected)
        self.assertGreater(min(results.count(True), results.count(False)), 100)

    def test_the_largest_formulas(self):
        for count in (19, 20):
            self.returns(TRUE if count % 2 else ('false',), push_negations, S, nested(count))
        formula = nested(10, lambda inner: ('not', ('and', (inner,))))
        self.returns(nested(10, lambda inner: ('and', (inner,)) if inner[0] in ('or', 'true') else ('or', (inner,))),
                     push_negations, S, ('not', formula))
        quantified = ('not', nested(9, exists))
        self.returns(8, quantifier_count, S, push_negations(S, quantified))


class TestErrors(Case):

    def test_an_invalid_schema_comes_first(self):
        for schema in list(broken(S)) + list(STRANGE):
            for formula in (TRUE, None, []):
                self.fails(InvalidSchema('why'), is_formula, schema, formula)
                for function in FUNCTIONS:
                    self.fails(InvalidSchema('why'), function, schema, formula)

    def test_an_invalid_formula_comes_next(self):
        values = list(broken(exists(('equal', 'T', 1)))) + list(STRANGE) + [nested(21), nested(10, exists), huge()]
        for formula in values:
            for function in FUNCTIONS:
                self.fails(InvalidFormula('why'), function, S, formula)


def huge():
    return 'and', (('or', (nested(8),) * 8),) * 4
