"""The definitions of the document, written down once more, by trying all possibilities; and random inputs."""

import itertools
import random


def is_upper(term):
    return isinstance(term, str) and term.isupper()


def groups(database):
    """Return the records of each group, in the order of the names of the groups."""
    found = {}
    for (table, size, _), rows in zip(*database):
        for record in rows:
            found[(table, record[:size])] = found.get((table, record[:size]), ()) + (record,)
    return [(name, found[name]) for name in sorted(found)]


def choices(database):
    return list(itertools.product(*[records for _, records in groups(database)]))


def matches(query, rows):
    """Return the pairs (answer, witness) of all matches; rows is a dict from tables to records."""
    head, atoms = query
    found = []
    for witness in itertools.product(*[rows[table] for table, _ in atoms]):
        pairs = [pair for (_, terms), record in zip(atoms, witness) for pair in zip(terms, record)]
        values = {term: value for term, value in pairs if is_upper(term)}
        if all(values.get(term, term) == value for term, value in pairs):
            found.append((tuple(values[variable] for variable in head), witness))
    return found


def all_rows(database):
    return {table[0]: rows for table, rows in zip(*database)}


def chosen_rows(database, choice):
    rows = {table[0]: [] for table in database[0]}
    for (name, _), record in zip(groups(database), choice):
        rows[name[0]].append(record)
    return rows


def answers(found):
    return tuple(sorted({answer for answer, _ in found}))


def variables(query, index=None, keys=None, fixed=()):
    """Return the variables of a query, or of one of its atoms, that do not count as values."""
    atoms = query[1] if index is None else query[1][index:index + 1]
    return {term for _, terms in atoms for term in terms[:keys] if is_upper(term)} - set(query[0]) - set(fixed)


def key_variables(schema, query, index, fixed=()):
    size = {table[0]: table[1] for table in schema}[query[1][index][0]]
    return variables(query, index, size, fixed)


def subsets(items):
    return [set(some) for many in range(len(items) + 1) for some in itertools.combinations(sorted(items), many)]


def implied(schema, query, index, fixed=(), gone=()):
    """Return the intersection of all sets that contain what the definition asks for."""
    others = [at for at in range(len(query[1])) if at != index and at not in gone]
    closed = [some for some in subsets(variables(query, fixed=fixed))
              if key_variables(schema, query, index, fixed) <= some
              and all(variables(query, at, fixed=fixed) <= some for at in others
                      if key_variables(schema, query, at, fixed) <= some)]
    return set.intersection(*closed)


def attack_paths(schema, query, index, fixed=(), gone=()):
    """Return all attack paths of an atom: all tuples of distinct variables that satisfy the definition."""
    left = [at for at in range(len(query[1])) if at not in gone]
    free = sorted(variables(query, fixed=fixed) - implied(schema, query, index, fixed, gone))
    together = {pair for at in left for pair in itertools.product(variables(query, at, fixed=fixed), repeat=2)}
    return [path for many in range(1, len(free) + 1) for path in itertools.permutations(free, many)
            if path[0] in variables(query, index, fixed=fixed)
            and all(pair in together for pair in zip(path, path[1:]))]


def edges(schema, query, fixed=(), gone=()):
    left = [at for at in range(len(query[1])) if at not in gone]
    attacked = {at: {path[-1] for path in attack_paths(schema, query, at, fixed, gone)} for at in left}
    return tuple((one, other) for one in left for other in left
                 if one != other and attacked[one] & variables(query, other, fixed=fixed))


def cycles(query, pairs):
    return [path for many in (2, 3, 4) for path in itertools.permutations(range(len(query[1])), many)
            if all(pair in pairs for pair in zip(path, path[1:] + path[:1]))]


def order(schema, query):
    """Return the elimination order, for a query without a cycle."""
    gone = ()
    while len(gone) < len(query[1]):
        fixed = {variable for at in gone for variable in variables(query, at)}
        attacked = {second for _, second in edges(schema, query, fixed, gone)}
        gone += (min(at for at in range(len(query[1])) if at not in gone and at not in attacked),)
    return gone


def random_schema(pick, kinds=('name', 'number'), tables=4):
    names = sorted(pick.sample(['a', 'b', 'c', 'd', 'e'], pick.randint(1, tables)))
    shapes = [tuple(pick.choice(kinds) for _ in range(pick.randint(1, 3))) for _ in names]
    return tuple((name, pick.randint(0, len(shape)), shape) for name, shape in zip(names, shapes))


def random_query(pick, schema, head=2):
    """Return a query; its variables are few, so that atoms share them."""
    tables = pick.sample(schema, pick.randint(1, min(4, len(schema))))
    spare = {'name': ['A', 'B', 'C', 'v'], 'number': ['X', 'Y', 1]}
    atoms = tuple((name, tuple(pick.choice(spare[kind]) for kind in kinds)) for name, _, kinds in tables)
    free = sorted(variables(((), atoms)))
    return tuple(pick.sample(free, pick.randint(0, min(head, len(free))))), atoms


def random_database(pick, schema, most=4):
    spare = {'name': ['u', 'v', 'w'], 'number': [0, 1, 2]}
    rows = [sorted({tuple(pick.choice(spare[kind]) for kind in kinds) for _ in range(pick.randint(0, most))})
            for _, _, kinds in schema]
    return schema, tuple(map(tuple, rows))


def random_inputs(seed, count, **limits):
    """Return many triples of a schema, a query and a database."""
    pick = random.Random(seed)
    found = []
    for _ in range(count):
        schema = random_schema(pick, **limits)
        found.append((schema, random_query(pick, schema), random_database(pick, schema)))
    return found
