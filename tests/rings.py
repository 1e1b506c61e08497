"""Databases whose components are as large as one wants."""

LEFT_RIGHT = tuple((name, 2, ('name', 'name', 'name')) for name in ('left', 'right'))
# A query with a cycle, for each value of Z; and one without, as all keys are in the head or known from it.
CYCLIC = (('Z',), (('left', ('Z', 'X', 'Y')), ('right', ('Z', 'Y', 'X'))))
ACYCLIC = (('Z',), (('left', ('Z', 'X', 'Y')), ('right', ('Z', 'Y', 'V'))))
LETTERS = 'abcdefghijklmnopqrstuvwxyz'


def ring(tag, count, more=0):
    """Return the rows of the tables for the answer `tag`: a ring of 2 * count groups of two records.

    Each group is linked with its two neighbours; the first one of the left has so many records more,
    which match nothing.
    """
    left = [(tag, 'x' + LETTERS[at], 'y' + LETTERS[(at + step) % count]) for at in range(count) for step in (0, 1)]
    right = [(tag, 'y' + LETTERS[at], 'x' + LETTERS[(at - step) % count]) for at in range(count) for step in (0, 1)]
    left += [(tag, 'xa', 'z' + LETTERS[at]) for at in range(more)]
    return left, right


def ring_database(*rings):
    left = sorted(record for rows, _ in rings for record in rows)
    right = sorted(record for _, rows in rings for record in rows)
    return LEFT_RIGHT, (tuple(left), tuple(right))


# Components of 4096 choices and of more: 12 groups of two records; 13 of them and one of three; 14 of two.
EXACT = ring_database(ring('a', 6))
LARGER = ring_database(ring('a', 6, 1))
LARGE = ring_database(ring('a', 7))
# For one answer alone; and beside a witness without conflicts.
ONE_LARGE = ring_database(ring('a', 7), ([('b', 'x', 'y'), ('b', 'x', 'z')], [('b', 'y', 'x'), ('b', 'z', 'x')]))
ONE_SURE = ring_database(ring('a', 7), ([('a', 'v', 'w')], [('a', 'w', 'v')]))


def path(tag, count):
    """Return the rows of a ring without one link: 2 * count - 2 groups of two records, and two of one.

    Of the 2 * count - 1 links one is taken by both of its groups, as there are 2 * count groups: the answer is certain.
    """
    left, right = ring(tag, count)
    return ([record for record in left if record[1:] != ('xa', 'yb')],
            [record for record in right if record[1:] != ('yb', 'xa')])


EXACT_PATH = ring_database(path('a', 7))
LARGE_PATH = ring_database(path('a', 8))
