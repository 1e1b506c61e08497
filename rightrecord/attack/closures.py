"""The variables that an atom implies, and those that it attacks."""

from rightrecord.base.schemas import check_schema, find_table
from rightrecord.base.values import is_integer_below
from rightrecord.errors import InvalidNumber, UnknownName
from rightrecord.query.queries import bound_among, check_query, find_bound


def atom_variables(schema, query):
    """Return for each atom of a valid query the pair of its key variables and of all its variables."""
    head, atoms = query
    pairs = []
    for table, terms in atoms:
        size = find_table(schema, table)[1]
        pairs.append((bound_among(terms[:size], head), bound_among(terms, head)))
    return pairs


def find_implied(pairs, index):
    """Return the implied variables of an atom, ascending, from the pairs of atom_variables."""
    implied = {variable: True for variable in pairs[index][0]}
    others = pairs[:index] + pairs[index + 1:]
    # Each round but the last adds the variables of one more atom at least.
    for _ in others:
        for keys, variables in others:
            if all([variable in implied for variable in keys]):
                implied.update({variable: True for variable in variables})
    return tuple(sorted(implied))


def find_paths(pairs, index):
    """Return a dict from each variable that an atom attacks to an attack path."""
    implied = find_implied(pairs, index)
    paths = {variable: (variable,) for variable in pairs[index][1] if variable not in implied}
    waiting = list(paths)
    while waiting:
        last = waiting.pop(0)
        for variable in _neighbours(pairs, last):
            if variable not in implied and variable not in paths:
                paths[variable] = paths[last] + (variable,)
                waiting.append(variable)
    return paths


def _neighbours(pairs, variable):
    """Return the variables that occur together with a variable in some atom."""
    return [other for _, variables in pairs if variable in variables for other in variables]


def check_index(query, index):
    """Raise InvalidNumber if it is not the index of an atom of the query."""
    if not is_integer_below(index, len(query[1])):
        raise InvalidNumber(index)


def implied_variables(schema, query, index):
    """Return the implied variables of an atom, ascending."""
    check_schema(schema)
    check_query(schema, query)
    check_index(query, index)
    return find_implied(atom_variables(schema, query), index)


def attacked_variables(schema, query, index):
    """Return the variables that an atom attacks, ascending."""
    check_schema(schema)
    check_query(schema, query)
    check_index(query, index)
    return tuple(sorted(find_paths(atom_variables(schema, query), index)))


def unattacked_variables(schema, query):
    """Return the variables that no atom attacks, ascending."""
    check_schema(schema)
    check_query(schema, query)
    pairs = atom_variables(schema, query)
    attacked = [variable for index in range(len(pairs)) for variable in find_paths(pairs, index)]
    return tuple([variable for variable in find_bound(query) if variable not in attacked])


def attack_path(schema, query, index, variable):
    """Return an attack path from an atom to a variable, or None if it does not attack it."""
    check_schema(schema)
    check_query(schema, query)
    check_index(query, index)
    _check_variable(query, variable)
    return find_paths(atom_variables(schema, query), index).get(variable)


def _check_variable(query, variable):
    if variable not in find_bound(query):
        raise UnknownName(variable)


def is_attack_path(schema, query, index, variable, value):
    """Return whether the value is an attack path from an atom to a variable."""
    check_schema(schema)
    check_query(schema, query)
    check_index(query, index)
    _check_variable(query, variable)
    if type(value) is not tuple or value[-1:] != (variable,):
        return False
    pairs = atom_variables(schema, query)
    implied = find_implied(pairs, index)
    bound = find_bound(query)
    if not all([item in bound and item not in implied for item in value]) or len(set(value)) < len(value):
        return False
    if value[0] not in pairs[index][1]:
        return False
    return all([item in _neighbours(pairs, before) for before, item in zip(value, value[1:])])
