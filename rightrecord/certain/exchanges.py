"""Choices that refute an answer, and exchanges between two choices."""

from rightrecord.attack.closures import unattacked_variables
from rightrecord.attack.graphs import check_acyclic, elimination_order
from rightrecord.data.choices import check_choice, is_choice
from rightrecord.data.databases import check_database, database_groups
from rightrecord.errors import InvalidChoice, InvalidQuery
from rightrecord.query.matching import find_matches, fit_record, holds_in
from rightrecord.query.queries import check_answer, check_query


def is_refuting(database, query, answer, value):
    """Return whether the value is a choice in which the answer does not hold."""
    check_database(database)
    check_query(database[0], query)
    check_answer(database[0], query, answer)
    return is_choice(database, value) and not holds_in(database, query, answer, value)


def refuting_choice(database, query, answer):
    """Return a choice in which the answer does not hold, or None if it is certain."""
    check_database(database)
    check_query(database[0], query)
    check_answer(database[0], query, answer)
    check_acyclic(database[0], query)
    return find_refuting(query, answer, elimination_order(database[0], query), database_groups(database))


def find_refuting(query, answer, order, groups):
    """Return a choice that refutes an answer of a query with this elimination order, or None if it is certain."""
    head, atoms = query
    taken = _refuted([atoms[at] for at in order], groups, dict(zip(head, answer)))
    return None if taken is None else make_choice(groups, taken)


def make_choice(groups, taken):
    """Return the choice that takes these records, and the first record of every group without one."""
    return tuple([taken.get(name, groups[name][0]) for name in groups])


def _refuted(atoms, groups, values):
    """Return a dict from each group to a record with which the atoms do not match, or None if they always do.

    The atoms stand in the elimination order, so the key variables of the first one are attacked by none.
    """
    if not atoms:
        return None
    table, terms = atoms[0]
    taken = {name: groups[name][0] for name in groups}
    for name in groups:
        # The key stands in front of the terms, and zip leaves out the terms behind it.
        keyed = fit_record(terms, name[1], values) if name[0] == table else None
        if keyed is not None:
            other = _refuted_through(atoms, groups, name, keyed)
            if other is None:
                return None
            # What is taken refutes the keys before this one, and it still does after the exchange.
            taken = _exchanged(atoms, keyed, taken, other)
    return taken


def _refuted_through(atoms, groups, name, values):
    """Return records with which the atoms do not match under the values of the key of a group, or None."""
    for record in groups[name]:
        fitted = fit_record(atoms[0][1], record, values)
        if fitted is None:
            taken = {other: groups[other][0] for other in groups}
        else:
            taken = _refuted(atoms[1:], groups, fitted)
        if taken is not None:
            taken[name] = record
            return taken
    return None


def _exchanged(atoms, values, taken, other):
    """Return what is taken, with records of the other dict in some groups, so that no match has these values.

    The values are those of variables that no atom attacks. A match that goes through a group, before
    and after its record is exchanged, gives these variables the same values (5.4). So no exchange of
    a record of a match adds a match with values that had none.
    """
    mixed = {name: taken[name] for name in taken}
    while True:
        rows = {table: [] for table, _ in atoms}
        owners = {}
        for name in mixed:
            rows.setdefault(name[0], []).append(mixed[name])
            owners[name[0], mixed[name]] = name
        found = find_matches(atoms, rows, values)
        if not found:
            return mixed
        used = [owners[atom[0], record] for atom, record in zip(atoms, found[0][0])]
        unlike = [owner for owner in used if mixed[owner] != other[owner]]
        mixed[unlike[0]] = other[unlike[0]]


def exchange(database, query, answer, choice, other):
    """Return a choice of records of the two, that refutes the answer and adds no answer to those of `choice`."""
    check_database(database)
    check_query(database[0], query)
    head, atoms = query
    unattacked = unattacked_variables(database[0], ((), atoms))
    if not all([variable in unattacked for variable in head]):
        raise InvalidQuery("a head variable is attacked")
    check_answer(database[0], query, answer)
    check_choice(database, choice)
    check_choice(database, other)
    if holds_in(database, query, answer, other):
        raise InvalidChoice("the answer holds in the other choice")
    groups = database_groups(database)
    mixed = _exchanged(atoms, dict(zip(head, answer)), dict(zip(groups, choice)), dict(zip(groups, other)))
    return make_choice(groups, mixed)
