"""Queries and their answers."""

from rightrecord.base.schemas import check_schema, find_table
from rightrecord.base.values import has_kinds, is_tuple, is_variable, value_kind
from rightrecord.errors import InvalidAnswer, InvalidQuery

MAX_ATOMS = 4
MAX_HEAD = 4


def is_query(schema, value):
    """Return whether the value is a query for the schema."""
    check_schema(schema)
    return _fits_schema(schema, value)


def _fits_schema(schema, value):
    if not is_tuple(value, 2, 2):
        return False
    head, atoms = value
    if not is_tuple(atoms, 1, MAX_ATOMS) or not all([_is_atom(schema, atom) for atom in atoms]):
        return False
    if len({atom[0] for atom in atoms}) < len(atoms):
        return False
    kinds = _variable_kinds(schema, atoms)
    return kinds is not None and _is_head(head, kinds)


def _is_atom(schema, value):
    if not is_tuple(value, 2, 2):
        return False
    table, terms = value
    entry = find_table(schema, table)
    if entry is None or not is_tuple(terms, len(entry[2]), len(entry[2])):
        return False
    return all([is_variable(term) or value_kind(term) == kind for term, kind in zip(terms, entry[2])])


def _variable_kinds(schema, atoms):
    """Return a dict from each variable of the atoms to its kind, or None if one has two kinds."""
    kinds = {}
    for table, terms in atoms:
        for term, kind in zip(terms, find_table(schema, table)[2]):
            if is_variable(term) and kinds.setdefault(term, kind) != kind:
                return None
    return kinds


def _is_head(value, kinds):
    if not is_tuple(value, 0, MAX_HEAD) or not all([is_variable(item) for item in value]):
        return False
    return len(set(value)) == len(value) and all([variable in kinds for variable in value])


def check_query(schema, query):
    """Raise InvalidQuery if it is not a query for the valid schema."""
    if not _fits_schema(schema, query):
        raise InvalidQuery("not a query for the schema")


def is_answer(schema, query, value):
    """Return whether the value is an answer of the query."""
    check_schema(schema)
    check_query(schema, query)
    return has_kinds(value, _head_kinds(schema, query))


def _head_kinds(schema, query):
    head, atoms = query
    kinds = _variable_kinds(schema, atoms)
    return tuple([kinds[variable] for variable in head])


def check_answer(schema, query, answer):
    """Raise InvalidAnswer if it is not an answer of the valid query."""
    if not has_kinds(answer, _head_kinds(schema, query)):
        raise InvalidAnswer("not an answer of the query")


def head_kinds(schema, query):
    """Return the kinds of the head variables, in order."""
    check_schema(schema)
    check_query(schema, query)
    return _head_kinds(schema, query)


def bound_variables(schema, query):
    """Return the variables that are not in the head, ascending."""
    check_schema(schema)
    check_query(schema, query)
    return find_bound(query)


def find_bound(query):
    """Return the bound variables of a valid query, ascending."""
    head, atoms = query
    return bound_among([term for atom in atoms for term in atom[1]], head)


def bound_among(terms, head):
    """Return the variables among the terms that are not in the head, ascending."""
    return tuple(sorted({term for term in terms if is_variable(term) and term not in head}))


def instantiate(schema, query, answer):
    """Return the query with the empty head and the values of the answer for its head variables."""
    check_schema(schema)
    check_query(schema, query)
    check_answer(schema, query, answer)
    head, atoms = query
    values = dict(zip(head, answer))
    return ((), tuple([(table, _replaced(terms, values)) for table, terms in atoms]))


def _replaced(terms, values):
    return tuple([values.get(term, term) for term in terms])


def with_head(schema, query, head):
    """Return the query with the same atoms and another head."""
    check_schema(schema)
    check_query(schema, query)
    check_query(schema, (head, query[1]))
    return (head, query[1])
