"""Trees, which certify that an answer holds in every choice."""

from rightrecord.attack.graphs import check_acyclic, elimination_order
from rightrecord.base.values import is_one_of, is_tuple
from rightrecord.data.databases import check_database, conflict_owners, database_groups, has_group, rows_by_table
from rightrecord.query.matching import fit_record, is_witness_in
from rightrecord.query.queries import check_answer, check_query


def is_certain_tree(database, query, answer, value):
    """Return whether the value is a tree for the answer."""
    check_database(database)
    check_query(database[0], query)
    check_answer(database[0], query, answer)
    return TreeCheck(database, query, answer).needed(value, ()) == {}


def has_zero_or_one(groups):
    """Return whether a record of the groups has a number that equals True or False."""
    items = [item for records in groups.values() for record in records for item in record]
    return 0 in items or 1 in items


def are_branches(value, records):
    """Return whether the value is a tuple of one pair for each record, in order, that begins with this record."""
    if not is_tuple(value, len(records), len(records)):
        return False
    return all([is_tuple(branch, 2, 2) and is_one_of(branch[0], (record,)) for branch, record in zip(value, records)])


class TreeCheck:
    """What the trees for one answer are checked against."""

    def __init__(self, database, query, answer):
        self.query = query
        self.answer = answer
        self.rows = rows_by_table(database)
        self.groups = database_groups(database)
        self.owners = conflict_owners(self.groups)
        self.has_zero_or_one = has_zero_or_one(self.groups)

    def needed(self, value, above):
        """Return a dict from each conflicting group whose branch a leaf still needs to the record of this branch.

        It is None if the value is a tree under no groups, or not under those named above it.
        """
        if is_tuple(value, 2, 2) and value[0] == "leaf":
            return self._needed_by_leaf(value[1])
        if is_tuple(value, 4, 4) and value[0] == "group":
            return self._needed_by_branches(value, above)
        return None

    def _needed_by_leaf(self, witness):
        if not is_witness_in(self.query, self.answer, self.rows, witness):
            return None
        pairs = [(atom[0], record) for atom, record in zip(self.query[1], witness)]
        return {self.owners[pair]: pair[1] for pair in pairs if pair in self.owners}

    def _needed_by_branches(self, value, above):
        _, table, key, branches = value
        if not has_group(self.groups, table, key) or (table, key) in above:
            return None
        name = (table, key)
        records = self.groups[name]
        if not are_branches(branches, records):
            return None
        needed = {}
        below = None
        for at, record in enumerate(records):
            # Trees may share parts, so that a small value stands for a huge tree; equal neighbours are checked once.
            # But True equals 1: where a record has 0 or 1, equal trees may differ.
            if at == 0 or self.has_zero_or_one or branches[at][1] != branches[at - 1][1]:
                below = self.needed(branches[at][1], above + (name,))
            if below is None or below.get(name, record) != record:
                return None
            for other in below:
                # A group above has one branch on the way to here, so it cannot give two of its records.
                if other != name and needed.setdefault(other, below[other]) != below[other]:
                    return None
        return needed


def certain_tree(database, query, answer):
    """Return a tree for the answer, or None if it is not certain."""
    check_database(database)
    check_query(database[0], query)
    check_answer(database[0], query, answer)
    check_acyclic(database[0], query)
    order = elimination_order(database[0], query)
    return find_tree(query, answer, order, database_groups(database))


def find_tree(query, answer, order, groups):
    """Return a tree for an answer of a query with this elimination order, or None if it is not certain."""
    head, atoms = query
    return _grown(atoms, order, groups, dict(zip(head, answer)), {})


def _grown(atoms, order, groups, values, taken):
    """Return a tree under which the atoms of the order match, with the records taken for the others, or None."""
    if not order:
        return ("leaf", tuple([taken[at] for at in range(len(atoms))]))
    for name in groups:
        branches = _branches(atoms, order, groups, name, values, taken)
        if branches is not None:
            return ("group",) + name + (branches,)
    return None


def _branches(atoms, order, groups, name, values, taken):
    """Return the branches of a group each of whose records makes the atoms of the order certain, or None."""
    table, terms = atoms[order[0]]
    if table != name[0]:
        return None
    branches = []
    for record in groups[name]:
        fitted = fit_record(terms, record, values)
        if fitted is None:
            return None
        tree = _grown(atoms, order[1:], groups, fitted, {**taken, order[0]: record})
        if tree is None:
            return None
        branches.append((record, tree))
    return tuple(branches)
