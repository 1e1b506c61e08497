"""The attacks between the atoms of a query, their cycles, and the elimination order."""

from rightrecord.attack.closures import atom_variables, find_paths
from rightrecord.base.schemas import check_schema
from rightrecord.base.values import is_integer_below, is_tuple
from rightrecord.errors import CyclicQuery
from rightrecord.query.queries import check_query

LEAST_CYCLE = 2
GREATEST_CYCLE = 4


def find_edges(pairs):
    """Return, ascending, the attacks between atoms, from the pairs of atom_variables."""
    edges = []
    for first in range(len(pairs)):
        attacked = find_paths(pairs, first)
        for second in range(len(pairs)):
            if first != second and any([variable in attacked for variable in pairs[second][1]]):
                edges.append((first, second))
    return tuple(edges)


def attack_edges(schema, query):
    """Return, ascending, the pairs of indices of atoms of which the first attacks the second."""
    check_schema(schema)
    check_query(schema, query)
    return find_edges(atom_variables(schema, query))


def find_cycle(schema, query):
    """Return a cycle, or None if there is none."""
    edges = attack_edges(schema, query)
    # In every cycle of attacks some two atoms attack each other, so longer cycles need no search.
    for first, second in edges:
        if (second, first) in edges:
            return (first, second)
    return None


def is_cycle(schema, query, value):
    """Return whether the value is a cycle."""
    edges = attack_edges(schema, query)
    if not is_tuple(value, LEAST_CYCLE, GREATEST_CYCLE):
        return False
    if not all([is_integer_below(index, len(query[1])) for index in value]) or len(set(value)) < len(value):
        return False
    return all([edge in edges for edge in zip(value, value[1:] + value[:1])])


def elimination_order(schema, query):
    """Return the elimination order, or None if there is a cycle."""
    if find_cycle(schema, query) is not None:
        return None
    pairs = atom_variables(schema, query)
    left = list(range(len(pairs)))
    order = []
    while left:
        at = _least_unattacked([pairs[index] for index in left])
        order.append(left[at])
        removed = pairs[left[at]][1]
        pairs = [(_without(keys, removed), _without(variables, removed)) for keys, variables in pairs]
        del left[at]
    return tuple(order)


def _least_unattacked(pairs):
    """Return the least index that no atom attacks; without a cycle there is one."""
    attacked = [second for _, second in find_edges(pairs)]
    return min([index for index in range(len(pairs)) if index not in attacked])


def _without(variables, removed):
    return tuple([variable for variable in variables if variable not in removed])


def check_acyclic(schema, query):
    """Raise CyclicQuery with a cycle of the valid query if it has one."""
    cycle = find_cycle(schema, query)
    if cycle is not None:
        raise CyclicQuery(cycle)
