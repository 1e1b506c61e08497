"""Decisions: whether an answer is certain, open or impossible, each with a certificate."""

from rightrecord.attack.graphs import elimination_order
from rightrecord.base.values import is_tuple
from rightrecord.certain.components import (check_selections, conflict_parts, count_selections, find_components,
                                            holding_numbers, merged, parts_within, selection_at)
from rightrecord.certain.exchanges import find_refuting, is_refuting, make_choice
from rightrecord.certain.trees import find_tree, is_certain_tree
from rightrecord.data.databases import check_database, conflict_owners, database_groups, rows_by_table
from rightrecord.query.matching import find_witnesses, is_witness, witnesses_by_answer
from rightrecord.query.queries import check_answer, check_query


def decide(database, query, answer):
    """Return a decision for the answer."""
    check_database(database)
    check_query(database[0], query)
    check_answer(database[0], query, answer)
    return Judge(database, query).decide(answer, find_witnesses(query, answer, rows_by_table(database)))


def classify(database, query, answer):
    """Return whether the answer is "certain", "open" or "impossible"."""
    return decide(database, query, answer)[0]


class Judge:
    """Decides the answers of one query on one database."""

    def __init__(self, database, query):
        self.query = query
        self.groups = database_groups(database)
        self.owners = conflict_owners(self.groups)
        self.order = elimination_order(database[0], query)

    def decide(self, answer, found):
        """Return a decision for an answer with these witnesses."""
        if not found:
            return ("impossible",)
        tree = self.tree(answer, found)
        if tree is not None:
            return ("certain", tree)
        return ("open", found[0], self._refuting(answer, found))

    def tree(self, answer, found):
        """Return a tree for an answer with these witnesses, or None if it is not certain."""
        if self.order is not None:
            return find_tree(self.query, answer, self.order, self.groups)
        parts = conflict_parts(self.query, self.owners, found)
        sets = find_components(parts)
        check_selections(self.groups, sets)
        if () in parts:
            return ("leaf", parts[()])
        for names in sets:
            if self._failing(parts, names) is None:
                return _split_tree(self.groups, [(part, parts[part]) for part in parts_within(parts, names)])
        return None

    def _failing(self, parts, names):
        """Return the first selection of a component under which no witness holds, or None."""
        holding = holding_numbers(self.groups, names, parts_within(parts, names))
        for number in range(count_selections(self.groups, names)):
            if number not in holding:
                return selection_at(self.groups, names, number)
        return None

    def _refuting(self, answer, found):
        """Return a choice that refutes an answer with these witnesses, which is not certain."""
        if self.order is not None:
            return find_refuting(self.query, answer, self.order, self.groups)
        parts = conflict_parts(self.query, self.owners, found)
        return make_choice(self.groups, merged([self._failing(parts, names) for names in find_components(parts)]))


def _split_tree(groups, ways):
    """Return a tree each of whose leaves holds a witness; every selection takes the part of one.

    The ways are pairs (part, witness): what is left to take of the records of the witness.
    """
    for part, witness in ways:
        if not part:
            return ("leaf", witness)
    name = ways[0][0][0][0]
    branches = [(record, _split_tree(groups, _ways_after(ways, name, record))) for record in groups[name]]
    return ("group",) + name + (tuple(branches),)


def _ways_after(ways, name, record):
    """Return the ways that are left when a group takes this record."""
    left = []
    for part, witness in ways:
        taken = dict(part)
        if taken.get(name, record) == record:
            left.append((tuple([pair for pair in part if pair[0] != name]), witness))
    return left


def is_decision(database, query, answer, value):
    """Return whether the value is a decision for the answer."""
    check_database(database)
    check_query(database[0], query)
    check_answer(database[0], query, answer)
    if not is_tuple(value, 1, 3):
        return False
    if value[0] == "certain":
        return len(value) == 2 and is_certain_tree(database, query, answer, value[1])
    if value[0] == "open":
        return (len(value) == 3 and is_witness(database, query, answer, value[1])
                and is_refuting(database, query, answer, value[2]))
    return value == ("impossible",) and find_witnesses(query, answer, rows_by_table(database)) == ()


def certain_answers(database, query):
    """Return the certain answers, ascending."""
    return tuple([answer for answer, is_certain in _judged(database, query) if is_certain])


def open_answers(database, query):
    """Return the open answers, ascending."""
    return tuple([answer for answer, is_certain in _judged(database, query) if not is_certain])


def _judged(database, query):
    """Return the pairs of each possible answer, ascending, and whether it is certain."""
    check_database(database)
    check_query(database[0], query)
    judge = Judge(database, query)
    found = witnesses_by_answer(query, rows_by_table(database))
    return [(answer, judge.tree(answer, found[answer]) is not None) for answer in found]
