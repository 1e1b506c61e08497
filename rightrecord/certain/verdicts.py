"""Decisions: whether an answer is certain, open or impossible, each with a certificate."""

from rightrecord.attack.graphs import elimination_order
from rightrecord.base.values import is_tuple
from rightrecord.certain.components import (MAX_CHOICES, Selections, check_selections, conflict_parts,
                                            find_components, largest_count, least_number, merged, parts_within)
from rightrecord.certain.exchanges import find_refuting, is_refuting, make_choice
from rightrecord.certain.trees import find_tree, is_certain_tree
from rightrecord.data.databases import check_database, conflict_owners, database_groups, rows_by_table
from rightrecord.query.matching import find_witnesses, is_witness, witnesses_by_answer
from rightrecord.query.queries import check_answer, check_query


def decide(database, query, answer):
    """Return a decision for the answer."""
    check_database(database)
    check_query(database[0], query)
    check_answer(database[0], query, answer)
    return find_decision(database, query, answer)


def find_decision(database, query, answer):
    """Return a decision for the answer; the arguments are valid."""
    return judge_of(database, query).decide(answer, find_witnesses(query, answer, rows_by_table(database)))


def classify(database, query, answer):
    """Return whether the answer is "certain", "open" or "impossible"."""
    return decide(database, query, answer)[0]


def judge_of(database, query):
    """Return what decides the answers of a valid query on a valid database."""
    return Judge(query, elimination_order(database[0], query), database_groups(database))


class Judge:
    """Decides the answers of one query, which has this elimination order or a cycle, on the records of groups."""

    def __init__(self, query, order, groups):
        self.query = query
        self.order = order
        self.groups = groups
        self.owners = conflict_owners(groups)

    def decide(self, answer, found):
        """Return a decision for an answer with these witnesses."""
        if not found:
            return ("impossible",)
        tree = self.tree(answer, found)
        if tree is not None:
            return ("certain", tree)
        return ("open", found[0], self._refuting(answer, found))

    def kind(self, answer, found):
        """Return the first element of the decision."""
        if not found:
            return "impossible"
        return "open" if self.tree(answer, found) is None else "certain"

    def is_small(self, found):
        """Return whether the answer with these witnesses is decided without raising TooMany."""
        return self.order is not None or largest_count(self.groups, self._split(found)[1]) <= MAX_CHOICES

    def after(self, name, record):
        """Return the judge of what is left where this record is the right one of its group."""
        groups = {other: (record,) if other == name else self.groups[other] for other in self.groups}
        return Judge(self.query, self.order, groups)

    def _split(self, found):
        """Return the parts of the witnesses in conflicting groups, and the components of their answer."""
        parts = conflict_parts(self.query, self.owners, found)
        return (parts, find_components(parts))

    def tree(self, answer, found):
        """Return a tree for an answer with these witnesses, or None if it is not certain."""
        if self.order is not None:
            return find_tree(self.query, answer, self.order, self.groups)
        parts, sets = self._split(found)
        check_selections(self.groups, sets)
        if () in parts:
            return ("leaf", parts[()])
        for names in sets:
            if self._failing(parts, names) is None:
                return _split_tree(self.groups, [(part, parts[part]) for part in parts_within(parts, names)])
        return None

    def _failing(self, parts, names):
        """Return the first selection of a component under which no witness holds, or None."""
        selections = Selections(self.groups, names)
        failing = selections.every & ~selections.holding(parts_within(parts, names))
        return selections.at(least_number(failing)) if failing else None

    def _refuting(self, answer, found):
        """Return a choice that refutes an answer with these witnesses, which is not certain."""
        if self.order is not None:
            return find_refuting(self.query, answer, self.order, self.groups)
        parts, sets = self._split(found)
        return make_choice(self.groups, merged([self._failing(parts, names) for names in sets]))


def _split_tree(groups, ways):
    """Return a tree each of whose leaves holds a witness; every selection takes the part of one.

    The ways are pairs (part, witness): what is left to take of the records of the witness.
    """
    for part, witness in ways:
        if not part:
            return ("leaf", witness)
    name = ways[0][0][0][0]
    branches = [(record, _split_tree(groups, _ways_after(ways, name, record))) for record in groups[name]]
    return ("group",) + name + (tuple(branches),)


def _ways_after(ways, name, record):
    """Return the ways that are left when a group takes this record."""
    left = []
    for part, witness in ways:
        taken = dict(part)
        if taken.get(name, record) == record:
            left.append((tuple([pair for pair in part if pair[0] != name]), witness))
    return left


def is_decision(database, query, answer, value):
    """Return whether the value is a decision for the answer."""
    check_database(database)
    check_query(database[0], query)
    check_answer(database[0], query, answer)
    if not is_tuple(value, 1, 3):
        return False
    if value[0] == "certain":
        return len(value) == 2 and is_certain_tree(database, query, answer, value[1])
    if value[0] == "open":
        return (len(value) == 3 and is_witness(database, query, answer, value[1])
                and is_refuting(database, query, answer, value[2]))
    return value == ("impossible",) and find_witnesses(query, answer, rows_by_table(database)) == ()


def certain_answers(database, query):
    """Return the certain answers, ascending."""
    return _answers_of_kind(database, query, "certain")


def open_answers(database, query):
    """Return the open answers, ascending."""
    return _answers_of_kind(database, query, "open")


def _answers_of_kind(database, query, kind):
    check_database(database)
    check_query(database[0], query)
    kinds = answer_kinds(database, query)
    return tuple([answer for answer in kinds if kinds[answer] == kind])


def answer_kinds(database, query):
    """Return a dict from each possible answer, ascending, to "certain" or "open"; the arguments are valid."""
    judge = judge_of(database, query)
    found = witnesses_by_answer(query, rows_by_table(database))
    return {answer: judge.kind(answer, found[answer]) for answer in found}
