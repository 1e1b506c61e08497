"""Errors (0.9, 0.10)."""

import unittest

from rightrecord import errors

WITH_MESSAGE = ('InvalidSchema', 'InvalidRecord', 'InvalidDatabase', 'InvalidChoice', 'InvalidQuery', 'InvalidAnswer',
                'InvalidFormula', 'InvalidBinding', 'InvalidWeights', 'InvalidSettlement', 'InvalidPlan',
                'InvalidClaims', 'InvalidPolicy', 'InvalidReport', 'InvalidOperation', 'InvalidMessage', 'ParseError',
                'InvalidCommand')
WITH_VALUE = {'UnknownName': (KeyError, 'name'), 'UnknownGroup': (LookupError, 'group'),
              'InvalidNumber': (IndexError, 'value'), 'TooMany': (OverflowError, 'limit'),
              'CyclicQuery': (RuntimeError, 'cycle')}


class TestErrors(unittest.TestCase):

    def test_the_base_of_the_errors_with_a_message(self):
        self.assertEqual(errors.RecordsError.__bases__, (ValueError,))
        self.assertEqual(str(errors.RecordsError('why')), 'why')

    def test_each_error_with_a_message(self):
        for name in WITH_MESSAGE:
            with self.subTest(error=name):
                error = getattr(errors, name)
                self.assertEqual(error.__bases__, (errors.RecordsError,))
                self.assertEqual(error.__name__, name)
                self.assertEqual(str(error('why')), 'why')
                with self.assertRaises(ValueError):
                    raise error('why')

    def test_each_error_with_a_value(self):
        for name, (base, attribute) in WITH_VALUE.items():
            with self.subTest(error=name):
                error = getattr(errors, name)
                self.assertEqual(error.__bases__, (base,))
                self.assertEqual(error.__name__, name)
                for value in ('ann', ('job', ('ann',)), 0, True, None, [1], {'a': []}, ()):
                    raised = error(value)
                    self.assertEqual(vars(raised), {attribute: value})
                    self.assertIs(getattr(raised, attribute), value)
                    with self.assertRaises(base):
                        raise raised

    def test_the_value_may_be_passed_by_its_name(self):
        self.assertEqual(errors.UnknownName(name='ann').name, 'ann')
        self.assertEqual(errors.TooMany(limit=6).limit, 6)

    def test_no_error_is_derived_from_another_one(self):
        names = WITH_MESSAGE + tuple(WITH_VALUE)
        for one in names:
            for other in names:
                if one != other:
                    self.assertFalse(issubclass(getattr(errors, one), getattr(errors, other)), (one, other))
        for name in WITH_VALUE:
            self.assertFalse(issubclass(getattr(errors, name), errors.RecordsError), name)

    def test_there_are_no_other_errors(self):
        own = {name for name, value in vars(errors).items() if isinstance(value, type)}
        self.assertEqual(own, {'RecordsError', *WITH_MESSAGE, *WITH_VALUE})


if __name__ == '__main__':
    unittest.main()
