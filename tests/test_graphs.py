"""Attacks between atoms, cycles, and the elimination order (5.2, 5.3)."""

import itertools
import unittest

from rightrecord.attack.graphs import attack_edges, elimination_order, find_cycle, is_cycle
from rightrecord.errors import InvalidQuery, InvalidSchema
from tests import oracle
from tests.support import S, STRANGE, Case, broken

Q = (('P', 'C'), (('job', ('P', 'T')), ('city', ('T', 'C'))))
U = (('left', 1, ('name', 'name')), ('right', 1, ('name', 'name')))
W = ((), (('left', ('X', 'Y')), ('right', ('Y', 'X'))))
PAIRS = tuple((name, 1, ('name', 'name')) for name in 'abcd')
INPUTS = (oracle.random_inputs(7, 300) + oracle.random_inputs(8, 300, kinds=('name',), tables=5)
          + oracle.random_inputs(9, 200, kinds=('number',), tables=5))


def ring(count):
    """Return a query of atoms each of whose values is the key of the next one."""
    return (), tuple((PAIRS[at][0], ('WXYZ'[at], 'WXYZ'[(at + 1) % count])) for at in range(count))


class TestGraphs(Case):

    def test_edges(self):
        self.returns(((0, 1),), attack_edges, S, Q)
        self.returns(((0, 1), (1, 0)), attack_edges, U, W)
        self.returns(((0, 1),), attack_edges, S, ((), Q[1]))
        self.returns(((1, 0),), attack_edges, S, ((), Q[1][::-1]))
        self.returns((), attack_edges, U, (('Y', 'X'), W[1]))
        self.returns((), attack_edges, S, ((), Q[1][:1]))
        self.returns((), attack_edges, S, ((), (('job', ('ann', 'rome')), ('city', ('lyon', 'gaul')))))

    def test_rings(self):
        for count in (2, 3, 4):
            query = ring(count)
            expected = tuple(itertools.permutations(range(count), 2))
            self.returns(expected, attack_edges, PAIRS, query)
            self.assertEqual(expected, oracle.edges(PAIRS, query))
            for many in (2, 3, 4):
                for path in itertools.permutations(range(count), many):
                    self.returns(True, is_cycle, PAIRS, query, path)
            self.returns(None, elimination_order, PAIRS, query)
            self.assertIn(find_cycle(PAIRS, query), oracle.cycles(query, expected))
            # A head variable cuts the ring.
            for head in 'WXYZ'[:count]:
                self.returns(None, find_cycle, PAIRS, ((head,), query[1]))

    def test_orders(self):
        self.returns((0, 1), elimination_order, S, Q)
        self.returns((1, 0), elimination_order, S, (Q[0], Q[1][::-1]))
        self.returns((0,), elimination_order, S, ((), Q[1][:1]))
        self.returns((0, 1), elimination_order, U, (('X', 'Y'), W[1]))
        atoms = (('a', ('Z', 'V')), ('b', ('Y', 'Z')), ('c', ('X', 'Y')), ('d', ('W', 'X')))
        self.returns((3, 2, 1, 0), elimination_order, PAIRS, ((), atoms))
        self.returns((0, 1, 2, 3), elimination_order, PAIRS, ((), atoms[::-1]))
        # Head variables cut the chain in two; then the least index comes first again.
        self.returns((1, 0, 3, 2), elimination_order, PAIRS, (('Y',), atoms))
        # Two chains side by side: what is removed lets the lesser index come first.
        atoms = (('a', ('Y', 'Z')), ('b', ('W', 'ann')), ('c', ('X', 'Y')), ('d', ('V', 'W')))
        self.returns((2, 0, 3, 1), elimination_order, PAIRS, ((), atoms))

    def test_against_the_definition(self):
        orders = {}
        for schema, query, _ in INPUTS:
            expected = oracle.edges(schema, query)
            self.returns(expected, attack_edges, schema, query)
            cycles = oracle.cycles(query, expected)
            found = find_cycle(schema, query)
            if cycles:
                self.assertIn(found, cycles)
                self.returns(found, find_cycle, schema, query)
                self.returns(True, is_cycle, schema, query, found)
                self.returns(None, elimination_order, schema, query)
            else:
                self.assertIsNone(found)
                order = oracle.order(schema, query)
                self.returns(order, elimination_order, schema, query)
                orders[order] = orders.get(order, 0) + 1
        self.assertGreater(len(orders), 12)

    def test_is_cycle_against_the_definition(self):
        for schema, query, _ in INPUTS[::5]:
            cycles = set(oracle.cycles(query, oracle.edges(schema, query)))
            for many in range(5):
                for value in itertools.product(range(len(query[1])), repeat=many):
                    if is_cycle(schema, query, value) is not (value in cycles):
                        self.fail((schema, query, value))

    def test_any_value(self):
        self.returns(True, is_cycle, U, W, (0, 1))
        self.returns(True, is_cycle, U, W, (1, 0))
        for value in list(broken((0, 1))) + list(STRANGE) + [(0,), (1,), (0, 0), (0, 1, 0), (0, 1, 0, 1), (True, 0),
                                                             (1, False), (-1, 0), (0, 2), [1, 0], ([0], [1]), (0, {}),
                                                             ('0', '1'), ((0, 1), (1, 0)), (0, 1, 2), {0: 1}]:
            self.returns(False, is_cycle, U, W, value)
            self.returns(False, is_cycle, S, Q, value)
        self.returns(False, is_cycle, S, Q, (0, 1))
        four = ring(4)
        self.returns(True, is_cycle, PAIRS, four, (2, 0, 3, 1))
        for value in broken((2, 0, 3, 1)):
            self.returns(False, is_cycle, PAIRS, four, value)
        for value in ((2, 0, 3, 2), (0, 1, 2, 3, 0), (0, 1, 2, 4), (0, 1, 2, -1)):
            self.returns(False, is_cycle, PAIRS, four, value)

    def test_an_invalid_schema_comes_first(self):
        for schema in list(broken(S)) + list(STRANGE):
            for query in (Q, None, []):
                for function in (attack_edges, find_cycle, elimination_order):
                    self.fails(InvalidSchema('why'), function, schema, query)
                self.fails(InvalidSchema('why'), is_cycle, schema, query, (0, 1))
                self.fails(InvalidSchema('why'), is_cycle, schema, query, [])

    def test_an_invalid_query_comes_next(self):
        for query in list(broken(Q)) + list(STRANGE) + [W, (('P', 'P'), Q[1]), ((), Q[1] + Q[1])]:
            for function in (attack_edges, find_cycle, elimination_order):
                self.fails(InvalidQuery('why'), function, S, query)
            self.fails(InvalidQuery('why'), is_cycle, S, query, (0, 1))
            self.fails(InvalidQuery('why'), is_cycle, S, query, {})


if __name__ == '__main__':
    unittest.main()
