"""Trees, the certificates of certain answers (8.1)."""

import random

from rightrecord.certain.trees import certain_tree, is_certain_tree
from rightrecord.errors import CyclicQuery, InvalidAnswer, InvalidDatabase, InvalidQuery
from tests import oracle
from tests.support import D, M, S, STRANGE, Case, broken

Q = (('P', 'C'), (('job', ('P', 'T')), ('city', ('T', 'C'))))
U = (('left', 1, ('name', 'name')), ('right', 1, ('name', 'name')))
W = ((), (('left', ('X', 'Y')), ('right', ('Y', 'X'))))
EMPTY = (S, ((), ()))
GAUL = ('ann', 'gaul')
LYON = ('leaf', (('ann', 'lyon'), ('lyon', 'gaul')))
NICE = ('leaf', (('ann', 'nice'), ('nice', 'gaul')))
TREE = ('group', 'job', ('ann',), ((('ann', 'lyon'), LYON), (('ann', 'nice'), NICE)))
INPUTS = [each for each in oracle.random_inputs(41, 500) + oracle.cyclic_inputs(42, 300)
          if len(oracle.choices(each[2])) <= 32]


def around(database, name, tree):
    """Return the node that names a group, with the same tree behind each of its records."""
    return ('group',) + name + (tuple((record, tree) for record in dict(oracle.groups(database))[name]),)


def drawn_tree(pick, query, answer, groups, found, taken):
    """Return a tree whose nodes name any groups, or None if there is none behind these branches."""
    chosen = {name: records[0] for name, records in groups if len(records) == 1} | taken
    held = [witness for witness, names in found if all(chosen.get(name) == record for name, record in names)]
    left = [name for name, _ in groups if name not in taken]
    if held and (not left or pick.random() < 0.7):
        return 'leaf', pick.choice(held)
    if not left:
        return None
    name = pick.choice(left)
    branches = [(record, drawn_tree(pick, query, answer, groups, found, {**taken, name: record}))
                for record in dict(groups)[name]]
    return None if None in [tree for _, tree in branches] else ('group',) + name + (tuple(branches),)


def owned_witnesses(database, query, answer):
    sizes = {table[0]: table[1] for table in database[0]}
    return [(witness, [((table, record[:sizes[table]]), record) for (table, _), record in zip(query[1], witness)])
            for other, witness in oracle.matches(query, oracle.all_rows(database)) if other == answer]


def changed(pick, tree, groups):
    """Return a tree like this one, with one change at some place."""
    if tree[0] == 'leaf' or pick.random() < 0.3:
        return pick.choice([tree[:1], tree + ((),), (tree[0], tree[-1]), ('leaf', tree[-1]), ('leaf', tree[-1][::-1]),
                            ('leaf', tree[-1][:-1]), tree[:-1] + (tree[-1][::-1],), tree[:-1] + (tree[-1][1:],),
                            tree[:-1] + (tree[-1] + tree[-1][:1],), tree[:-1] + (list(tree[-1]),), tree[::-1],
                            ('group',) + pick.choice(groups)[0] + (tree[-1],), ('group', 'a', (), tree)])
    name, branches = tree[1:3], tree[3]
    at = pick.randrange(len(branches))
    record, inner = branches[at]
    other = pick.choice([changed(pick, inner, groups), pick.choice(branches)[1], tree])
    return ('group',) + name + (branches[:at] + ((record, other),) + branches[at + 1:],)


class TestIsTree(Case):

    def test_the_tree_of_the_document(self):
        self.returns(True, is_certain_tree, D, Q, GAUL, TREE)
        self.returns(False, is_certain_tree, D, Q, GAUL, LYON)
        self.returns(False, is_certain_tree, D, Q, ('bob', 'gaul'), TREE)
        # The records of cities are alone in their groups: no node is needed for them.
        self.returns(True, is_certain_tree, D, Q, GAUL, around(D, ('city', ('lyon',)), TREE))

    def test_any_value(self):
        for value in list(broken(TREE)) + list(STRANGE) + [(), ('leaf',), ('group',), ('group', 'job', ('ann',)),
                                                           ('leaf', ()), ('leaf', None), ('leaf', []), ('leaf', {}),
                                                           ('group', [], {}, None), ({}, []), ([],) * 4]:
            self.returns(False, is_certain_tree, D, Q, GAUL, value)

    def test_groups_that_no_atom_uses(self):
        query = (('P',), Q[1][:1])
        plain = ('group', 'job', ('ann',), tuple((record, ('leaf', (record,))) for record in (('ann', 'lyon'),
                                                                                            ('ann', 'nice'))))
        self.returns(True, is_certain_tree, D, query, ('ann',), plain)
        for name in (('city', ('cork',)), ('city', ('lyon',)), ('job', ('bob',))):
            self.returns(True, is_certain_tree, D, query, ('ann',), around(D, name, plain))
            within = plain[:3] + (tuple((record, around(D, name, tree)) for record, tree in plain[3]),)
            self.returns(True, is_certain_tree, D, query, ('ann',), within)
            self.returns(True, is_certain_tree, D, query, ('ann',), around(D, ('city', ('nice',)), within))
            # Named twice on one way.
            self.returns(False, is_certain_tree, D, query, ('ann',), around(D, name, within))
            self.returns(False, is_certain_tree, D, query, ('ann',), around(D, name, around(D, name, plain)))
        for name in (('city', ('rome',)), ('town', ('cork',)), ('job', ()), ('job', ('ann', 'lyon'))):
            self.returns(False, is_certain_tree, D, query, ('ann',), ('group',) + name + ((),))
            self.returns(False, is_certain_tree, D, query, ('ann',), ('group',) + name + (plain[3],))
        self.returns(False, is_certain_tree, D, query, ('ann',), around(D, ('job', ('ann',)), plain))

    def test_branches(self):
        pairs = TREE[3]
        for branches in (pairs[::-1], pairs[:1], pairs[1:], pairs + pairs[1:], pairs[:1] * 2, (), list(pairs), None,
                         (pairs[0][::-1], pairs[1]), (pairs[0] + (None,), pairs[1]), (pairs[0][:1], pairs[1]),
                         ((('ann', 'lyon'), NICE), (('ann', 'nice'), LYON)), (list(pairs[0]), pairs[1]),
                         ((('ann', 'rome'), LYON), pairs[1]), ((('bob', 'lyon'), LYON), pairs[1]),
                         (pairs[0], (('ann', 'nice'), TREE)), (pairs[0], (('ann', 'nice'), LYON)),
                         (pairs[0], (('ann', 'nice'), ('leaf', (('bob', 'lyon'), ('lyon', 'gaul')))))):
            self.returns(False, is_certain_tree, D, Q, GAUL, TREE[:3] + (branches,))

    def test_a_leaf_needs_its_branches(self):
        """The record of a leaf must be that of the branch, also if another branch takes the other one."""
        database = (S, ((('lyon', 'eire'), ('lyon', 'gaul'), ('nice', 'gaul')), (('ann', 'lyon'), ('ann', 'nice'))))
        query = ((), Q[1])
        leaves = {(town, land): ('leaf', (('ann', town), (town, land)))
                  for town, land in (('lyon', 'eire'), ('lyon', 'gaul'), ('nice', 'gaul'))}
        land = ('group', 'city', ('lyon',), tuple((('lyon', one), leaves['lyon', one]) for one in ('eire', 'gaul')))
        pairs = ((('ann', 'lyon'), land), (('ann', 'nice'), leaves['nice', 'gaul']))
        self.returns(True, is_certain_tree, database, query, (), ('group', 'job', ('ann',), pairs))
        for other in leaves.values():
            tree = ('group', 'job', ('ann',), ((('ann', 'lyon'), other), pairs[1]))
            self.returns(False, is_certain_tree, database, query, (), tree)
        turned = ('group', 'city', ('lyon',), tuple(
            (('lyon', one), ('group', 'job', ('ann',), ((('ann', 'lyon'), leaves['lyon', one]), pairs[1])))
            for one in ('eire', 'gaul')))
        self.returns(True, is_certain_tree, database, query, (), turned)
        crossed = turned[:3] + ((turned[3][0], (('lyon', 'gaul'), turned[3][0][1])),)
        self.returns(False, is_certain_tree, database, query, (), crossed)

    def test_truth_values_are_no_numbers(self):
        query = ((), (('pay', ('X', 'Y', 'P')),))
        pairs = tuple((record, ('leaf', (record,))) for record in ((1, 0, 'bob'), (1, 1, 'ann')))
        tree = ('group', 'pay', (1,), pairs)
        self.returns(True, is_certain_tree, M, query, (), tree)
        for value in broken(tree):
            self.returns(False, is_certain_tree, M, query, (), value)
        # Equal trees of which only one is right, behind two records of a group.
        wrong = tree[:3] + ((pairs[0], ((1, 1, 'ann'), ('leaf', ((1, True, 'ann'),)))),)
        self.assertEqual(tree, wrong)
        rates = ((0,), (1,), (5,))
        for trees in ((tree, tree, wrong), (wrong, tree, tree), (tree, wrong, tree)):
            self.returns(False, is_certain_tree, M, query, (), ('group', 'rate', (), tuple(zip(rates, trees))))
        self.returns(True, is_certain_tree, M, query, (), ('group', 'rate', (), tuple(zip(rates, (tree,) * 3))))

    def test_truth_values_beside_only_one_number(self):
        for number in (0, 1):
            database = (M[0], ((), ((number, 7, 'ann'),), ((7,), (8,))))
            query = ((), (('pay', ('X', 7, 'P')),))
            leaf, wrong = (('leaf', ((value, 7, 'ann'),)) for value in (number, bool(number)))
            self.assertEqual(leaf, wrong)
            for trees in ((leaf, leaf), (leaf, wrong), (wrong, leaf)):
                tree = ('group', 'rate', (), tuple(zip(((7,), (8,)), trees)))
                self.returns(wrong not in [each for each in trees if repr(each) == repr(wrong)], is_certain_tree,
                             database, query, (), tree)

    def test_drawn_trees_against_the_definition(self):
        pick = random.Random(43)
        right = wrong = 0
        for schema, query, database in INPUTS:
            groups = oracle.groups(database)
            for answer in oracle.answers(oracle.matches(query, oracle.all_rows(database)))[:3]:
                for _ in range(2):
                    tree = drawn_tree(pick, query, answer, groups, owned_witnesses(database, query, answer), {})
                    if tree is not None and len(repr(tree)) < 20000:
                        self.assertTrue(oracle.is_tree(database, query, answer, tree))
                        self.returns(True, is_certain_tree, database, query, answer, tree)
                        right += 1
                        for _ in range(8):
                            value = changed(pick, tree, groups)
                            expected = oracle.is_tree(database, query, answer, value)
                            self.returns(expected, is_certain_tree, database, query, answer, value)
                            wrong += not expected
        self.assertGreater(right, 150)
        self.assertGreater(wrong, 800)

    def test_deep_trees(self):
        """All groups of a database of forty records on one way, with and without conflicts."""
        letters = 'abcdefghijklmnopqrstuvwxyz'
        rows = tuple((letter, 'x') for letter in letters)
        database = (S, (rows, (('ann', 'lyon'), ('ann', 'nice'))))
        query = (('P',), Q[1][:1])
        tree = ('group', 'job', ('ann',), tuple((record, ('leaf', (record,))) for record in database[1][1]))
        for letter in letters:
            tree = around(database, ('city', (letter,)), tree)
        self.returns(True, is_certain_tree, database, query, ('ann',), tree)
        self.returns(False, is_certain_tree, database, query, ('ann',), around(database, ('city', ('a',)), tree))
        very = LYON
        for _ in range(5000):
            very = ('group', 'city', ('lyon',), ((('lyon', 'gaul'), very),))
        self.assertIs(is_certain_tree(D, Q, GAUL, very), False)
        double = LYON
        for _ in range(5000):
            double = ('group', 'job', ('ann',), ((('ann', 'lyon'), double), (('ann', 'nice'), double)))
        self.assertIs(is_certain_tree(D, Q, GAUL, double), False)

    def test_a_tree_that_shares_its_parts(self):
        """Nineteen conflicting groups in front of the one that counts: a small value, half a million leaves."""
        letters = 'abcdefghijklmnopqrst'
        database = (S, ((), tuple((letter, town) for letter in letters for town in ('lyon', 'nice'))))
        query = (('P',), Q[1][:1])
        tree = ('group', 'job', ('a',), tuple((('a', town), ('leaf', (('a', town),))) for town in ('lyon', 'nice')))
        wrong = tree[:3] + (tree[3][:1] + ((('a', 'nice'), tree[3][0][1]),),)
        for letter in letters[1:]:
            tree = around(database, ('job', (letter,)), tree)
            wrong = around(database, ('job', (letter,)), wrong)
        self.assertIs(is_certain_tree(database, query, ('a',), tree), True)
        self.assertIs(is_certain_tree(database, query, ('a',), wrong), False)
        self.assertIs(is_certain_tree(database, query, ('b',), tree), False)


class TestCertainTree(Case):

    def test_samples(self):
        self.assertTrue(is_certain_tree(D, Q, GAUL, certain_tree(D, Q, GAUL)))
        for answer in (('bob', 'gaul'), ('bob', 'eire'), ('ann', 'eire'), ('eve', 'gaul')):
            self.returns(None, certain_tree, D, Q, answer)
        self.returns(None, certain_tree, EMPTY, Q, GAUL)
        self.returns(None, certain_tree, EMPTY, ((), Q[1]), ())

    def test_against_all_choices(self):
        certain = 0
        for schema, query, database in INPUTS[:len(INPUTS) // 2]:
            if oracle.cycles(query, oracle.edges(schema, query)):
                continue
            for answer, word in oracle.classes(schema, query, database).items():
                tree = self.stable(certain_tree, database, query, answer)
                self.assertEqual(tree is not None, word == 'certain', (database, query, answer))
                if tree is not None:
                    self.assertTrue(oracle.is_tree(database, query, answer, tree))
                    self.returns(True, is_certain_tree, database, query, answer, tree)
                    certain += 1
        self.assertGreater(certain, 100)

    def test_twenty_conflicting_groups(self):
        letters = 'abcdefghijklmnopqrst'
        database = ((('keyed', 1, ('name', 'number')),),
                    (tuple((letter, at) for letter in letters for at in (0, 1)),))
        for query, answer in (((('K',), (('keyed', ('K', 'X')),)), ('q',)), (((), (('keyed', ('K', 'X')),)), ())):
            tree = self.stable(certain_tree, database, query, answer)
            self.returns(True, is_certain_tree, database, query, answer, tree)
        self.returns(None, certain_tree, database, ((), (('keyed', ('K', 1)),)), ())
        tables = tuple((name, 1, ('name', 'number')) for name in 'abcd')
        database = (tables, (tuple((letter, at) for letter in 'uvwxy' for at in (0, 1)),) * 4)
        query = ((), tuple((name, (key, 'X' + key)) for name, key in zip('abcd', 'KLMN')))
        tree = self.stable(certain_tree, database, query, ())
        self.returns(True, is_certain_tree, database, query, (), tree)
        for at in range(4):
            atoms = query[1][:at] + ((query[1][at][0], (query[1][at][1][0], 1)),) + query[1][at + 1:]
            self.returns(None, certain_tree, database, ((), atoms), ())

    def test_a_group_of_six_records(self):
        towns = tuple(('ann', town) for town in 'abcdef')
        cities = tuple((town, 'gaul') for town in 'abcdef')
        tree = self.stable(certain_tree, (S, (cities, towns)), Q, GAUL)
        self.returns(True, is_certain_tree, (S, (cities, towns)), Q, GAUL, tree)
        self.returns(None, certain_tree, (S, (cities[1:], towns)), Q, GAUL)


class TestErrors(Case):

    def test_the_order_of_the_errors(self):
        for database in list(broken(D)) + list(STRANGE):
            self.fails(InvalidDatabase('why'), is_certain_tree, database, None, None, None)
            self.fails(InvalidDatabase('why'), certain_tree, database, Q, GAUL)
            self.fails(InvalidDatabase('why'), certain_tree, database, W, [])
        for query in list(broken(Q)) + list(STRANGE) + [W]:
            self.fails(InvalidQuery('why'), is_certain_tree, D, query, None, TREE)
            self.fails(InvalidQuery('why'), certain_tree, D, query, GAUL)
            self.fails(InvalidQuery('why'), certain_tree, D, query, [])
        for answer in list(broken(GAUL)) + [(), ('ann',), ('ann', 1), ['ann', 'gaul'], ('ann', 'gaul', 'gaul')]:
            self.fails(InvalidAnswer('why'), is_certain_tree, D, Q, answer, TREE)
            self.fails(InvalidAnswer('why'), certain_tree, D, Q, answer)

    def test_cycles(self):
        database = (U, ((('u', 'v'),), (('v', 'u'),)))
        with self.assertRaises(CyclicQuery) as caught:
            certain_tree(database, W, ())
        self.assertIn(caught.exception.cycle, ((0, 1), (1, 0)))
        self.fails(InvalidAnswer('why'), certain_tree, database, W, ('u',))
        # A tree may be checked also for a query with a cycle.
        self.returns(True, is_certain_tree, database, W, (), ('leaf', (('u', 'v'), ('v', 'u'))))
