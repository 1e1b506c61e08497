"""What the tests share: the values of the document's examples, values that are valid nowhere, and checks."""

import unittest

S = (('city', 1, ('name', 'name')), ('job', 1, ('name', 'name')))
D = (S, ((('cork', 'eire'), ('lyon', 'gaul'), ('nice', 'gaul')),
         (('ann', 'lyon'), ('ann', 'nice'), ('bob', 'cork'), ('bob', 'lyon'))))

# Tables with an empty key, with numbers, and with nothing but key columns.
N = (('full', 2, ('name', 'number')), ('pay', 1, ('number', 'number', 'name')), ('rate', 0, ('number',)))
M = (N, ((('ann', 0), ('ann', 1)),
         ((0, 1, 'ann'), (1, 0, 'bob'), (1, 1, 'ann')),
         ((0,), (1,), (5,))))
M_GROUPS = (('full', ('ann', 0)), ('full', ('ann', 1)), ('pay', (0,)), ('pay', (1,)), ('rate', ()))

DEEP = ((((((((([],),),),),),),),),)

# Values of many kinds: no schema, database, query or choice is among them.
STRANGE = (None, True, False, 0, 1, -1, 10 ** 9 + 1, 10 ** 39, '', 'ann', 'ANN', 'Ann', 'job', (), (None,), (True,),
           (0,), ((),), ([],), ({},), ('job',), ('job', ()), ('job', ('ann',)), ('job', ['ann']), [], ['job'], [[]],
           {}, {'job': 1}, {(): ()}, DEEP, ('name', 1, {'a': []}))


def broken(value):
    """Yield copies of a value, each with one part replaced by a value that is valid at no place."""
    yield from (None, [], {}, {'ann': 1}, ([],), (True,), -(10 ** 9) - 1, 'Ann', DEEP)
    if isinstance(value, tuple):
        yield list(value)
        for at, part in enumerate(value):
            for other in broken(part):
                yield value[:at] + (other,) + value[at + 1:]
    else:
        yield [value]
        yield (value,)
        if value in (0, 1):
            yield bool(value)


class Case(unittest.TestCase):
    """Checks of a call: its result, or its error, and that it changes nothing."""

    def call(self, function, *arguments, **named):
        before = repr((arguments, named))
        try:
            return repr(function(*arguments, **named))
        except Exception as error:
            # repr tells True from 1 and a tuple from a list; == does not.
            return f'{type(error).__name__}{vars(error)!r}'
        finally:
            self.assertEqual(repr((arguments, named)), before, 'an argument was changed')

    def returns(self, expected, function, *arguments, **named):
        for _ in range(2):
            self.assertEqual(self.call(function, *arguments, **named), repr(expected),
                             (function.__name__, arguments, named))

    def fails(self, error, function, *arguments, **named):
        """The call raises an error of just this class, with just these attributes."""
        expected = f'{type(error).__name__}{vars(error)!r}'
        for _ in range(2):
            self.assertEqual(self.call(function, *arguments, **named), expected, (function.__name__, arguments, named))

    def stable(self, function, *arguments, **named):
        """Return the result of a call that changes nothing and gives an equal result again."""
        self.assertEqual(self.call(function, *arguments, **named), self.call(function, *arguments, **named))
        return function(*arguments, **named)
