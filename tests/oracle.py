"""The definitions of the document, written down once more, by trying all possibilities; and random inputs."""

import fractions
import itertools
import random


def is_upper(term):
    return isinstance(term, str) and term.isupper()


def groups(database):
    """Return the records of each group, in the order of the names of the groups."""
    found = {}
    for (table, size, _), rows in zip(*database):
        for record in rows:
            found[(table, record[:size])] = found.get((table, record[:size]), ()) + (record,)
    return [(name, found[name]) for name in sorted(found)]


def choices(database):
    return list(itertools.product(*[records for _, records in groups(database)]))


def matches(query, rows):
    """Return the pairs (answer, witness) of all matches; rows is a dict from tables to records."""
    head, atoms = query
    found = []
    for witness in itertools.product(*[rows[table] for table, _ in atoms]):
        pairs = [pair for (_, terms), record in zip(atoms, witness) for pair in zip(terms, record)]
        values = {term: value for term, value in pairs if is_upper(term)}
        if all(values.get(term, term) == value for term, value in pairs):
            found.append((tuple(values[variable] for variable in head), witness))
    return found


def all_rows(database):
    return {table[0]: rows for table, rows in zip(*database)}


def chosen_rows(database, choice):
    rows = {table[0]: [] for table in database[0]}
    for (name, _), record in zip(groups(database), choice):
        rows[name[0]].append(record)
    return rows


def domains(schema, query):
    """Return the answers whose values are among those of the random databases."""
    spare = {'name': ('u', 'v', 'w'), 'number': (0, 1, 2)}
    kinds = {table[0]: table[2] for table in schema}
    found = {term: kind for table, terms in query[1] for term, kind in zip(terms, kinds[table])}
    return list(itertools.product(*[spare[found[variable]] for variable in query[0]]))


def answers_by_choice(query, database):
    """Return a dict from each choice to the answers that hold in it."""
    return {choice: answers(matches(query, chosen_rows(database, choice))) for choice in choices(database)}


def classes(schema, query, database):
    """Return a dict from each answer of the random values to its class."""
    held = answers_by_choice(query, database).values()
    found = {}
    for answer in domains(schema, query):
        holds = [answer in some for some in held]
        found[answer] = 'certain' if all(holds) else 'open' if any(holds) else 'impossible'
    return found


def conflicts(database, query, witness):
    """Return the names of the conflicting groups to which the records of a witness belong."""
    many = dict(groups(database))
    sizes = {table[0]: table[1] for table in database[0]}
    names = [(table, record[:sizes[table]]) for (table, _), record in zip(query[1], witness)]
    return {name for name in names if len(many[name]) > 1}


def linked(sets):
    """Return, ascending, the classes of names that are connected by common sets."""
    names = sorted(set().union(*sets))
    near = {name: {other for some in sets if name in some for other in some} for name in names}
    for _ in names:
        near = {name: set().union(*[near[other] for other in near[name]]) for name in names}
    return tuple(sorted({tuple(sorted(some)) for some in near.values()}))


def components(database, query, answer):
    found = [witness for other, witness in matches(query, all_rows(database)) if other == answer]
    return linked([conflicts(database, query, witness) for witness in found])


def blocks(database, query):
    found = {}
    for answer, witness in matches(query, all_rows(database)):
        found[answer] = found.get(answer, set()) | conflicts(database, query, witness)
    return linked(list(found.values()))


def shares(database, weights):
    """Return a dict from each choice to its share."""
    weight = {(table[0], record): worth for table, rows, entry in zip(*database, weights)
              for record, worth in zip(rows, entry)}
    found = {}
    for choice in choices(database):
        found[choice] = fractions.Fraction(1)
        for (name, records), record in zip(groups(database), choice):
            total = sum(weight[name[0], other] for other in records)
            found[choice] *= fractions.Fraction(weight[name[0], record], total)
    return found


def pair(fraction):
    return fraction.numerator, fraction.denominator


def is_tree(database, query, answer, value, taken=()):
    """Return whether the value is a tree, from its whole down to the leaves; taken has the branches so far."""
    named = dict(groups(database))
    if type(value) is not tuple or len(value) not in (2, 4):
        return False
    if len(value) == 2:
        witnesses = [witness for other, witness in matches(query, all_rows(database)) if other == answer]
        if repr(value[0]) != repr('leaf') or repr(value[1]) not in map(repr, witnesses):
            return False
        sizes = {table[0]: table[1] for table in database[0]}
        owners = [((table, record[:sizes[table]]), record) for (table, _), record in zip(query[1], value[1])]
        return all(len(named[name]) == 1 or (name, record) in taken for name, record in owners)
    word, table, key, branches = value
    if repr(word) != repr('group') or repr((table, key)) not in map(repr, named):
        return False
    name = (table, key)
    if name in [other for other, _ in taken] or type(branches) is not tuple or len(branches) != len(named[name]):
        return False
    return all(type(branch) is tuple and len(branch) == 2 and repr(branch[0]) == repr(record)
               and is_tree(database, query, answer, branch[1], taken + ((name, record),))
               for record, branch in zip(named[name], branches))


def answers(found):
    return tuple(sorted({answer for answer, _ in found}))


def variables(query, index=None, keys=None, fixed=()):
    """Return the variables of a query, or of one of its atoms, that do not count as values."""
    atoms = query[1] if index is None else query[1][index:index + 1]
    return {term for _, terms in atoms for term in terms[:keys] if is_upper(term)} - set(query[0]) - set(fixed)


def key_variables(schema, query, index, fixed=()):
    size = {table[0]: table[1] for table in schema}[query[1][index][0]]
    return variables(query, index, size, fixed)


def subsets(items):
    return [set(some) for many in range(len(items) + 1) for some in itertools.combinations(sorted(items), many)]


def implied(schema, query, index, fixed=(), gone=()):
    """Return the intersection of all sets that contain what the definition asks for."""
    others = [at for at in range(len(query[1])) if at != index and at not in gone]
    closed = [some for some in subsets(variables(query, fixed=fixed))
              if key_variables(schema, query, index, fixed) <= some
              and all(variables(query, at, fixed=fixed) <= some for at in others
                      if key_variables(schema, query, at, fixed) <= some)]
    return set.intersection(*closed)


def attack_paths(schema, query, index, fixed=(), gone=()):
    """Return all attack paths of an atom: all tuples of distinct variables that satisfy the definition."""
    left = [at for at in range(len(query[1])) if at not in gone]
    free = sorted(variables(query, fixed=fixed) - implied(schema, query, index, fixed, gone))
    together = {pair for at in left for pair in itertools.product(variables(query, at, fixed=fixed), repeat=2)}
    return [path for many in range(1, len(free) + 1) for path in itertools.permutations(free, many)
            if path[0] in variables(query, index, fixed=fixed)
            and all(pair in together for pair in zip(path, path[1:]))]


def edges(schema, query, fixed=(), gone=()):
    left = [at for at in range(len(query[1])) if at not in gone]
    attacked = {at: {path[-1] for path in attack_paths(schema, query, at, fixed, gone)} for at in left}
    return tuple((one, other) for one in left for other in left
                 if one != other and attacked[one] & variables(query, other, fixed=fixed))


def cycles(query, pairs):
    return [path for many in (2, 3, 4) for path in itertools.permutations(range(len(query[1])), many)
            if all(pair in pairs for pair in zip(path, path[1:] + path[:1]))]


def order(schema, query):
    """Return the elimination order, for a query without a cycle."""
    gone = ()
    while len(gone) < len(query[1]):
        fixed = {variable for at in gone for variable in variables(query, at)}
        attacked = {second for _, second in edges(schema, query, fixed, gone)}
        gone += (min(at for at in range(len(query[1])) if at not in gone and at not in attacked),)
    return gone


def random_schema(pick, kinds=('name', 'number'), tables=4, columns=3):
    names = sorted(pick.sample(['a', 'b', 'c', 'd', 'e'], pick.randint(1, tables)))
    shapes = [tuple(pick.choice(kinds) for _ in range(pick.randint(1, columns))) for _ in names]
    return tuple((name, pick.randint(0, len(shape)), shape) for name, shape in zip(names, shapes))


def random_query(pick, schema, head=2):
    """Return a query; its variables are few, so that atoms share them."""
    tables = pick.sample(schema, pick.randint(1, min(4, len(schema))))
    spare = {'name': ['A', 'B', 'C', 'v'], 'number': ['X', 'Y', 1]}
    atoms = tuple((name, tuple(pick.choice(spare[kind]) for kind in kinds)) for name, _, kinds in tables)
    free = sorted(variables(((), atoms)))
    return tuple(pick.sample(free, pick.randint(0, min(head, len(free))))), atoms


def random_database(pick, schema, most=4):
    spare = {'name': ['u', 'v', 'w'], 'number': [0, 1, 2]}
    rows = [sorted({tuple(pick.choice(spare[kind]) for kind in kinds) for _ in range(pick.randint(0, most))})
            for _, _, kinds in schema]
    return schema, tuple(map(tuple, rows))


def random_inputs(seed, count, **limits):
    """Return many triples of a schema, a query and a database."""
    pick = random.Random(seed)
    found = []
    for _ in range(count):
        schema = random_schema(pick, **limits)
        found.append((schema, random_query(pick, schema), random_database(pick, schema)))
    return found


def cyclic_inputs(seed, count):
    """Return many triples of a schema, a query with a cycle and a database whose tables are pairs of names."""
    pick = random.Random(seed)
    found = []
    while len(found) < count:
        names = 'abcd'[:pick.randint(2, 4)]
        schema = tuple((name, pick.randint(0, 1), ('name', 'name')) for name in names)
        atoms = tuple((name, tuple(pick.sample('WXYZ', 2))) for name in names)
        free = sorted(variables(((), atoms)))
        query = (tuple(pick.sample(free, pick.randint(0, 1))), atoms)
        if cycles(query, edges(schema, query)):
            found.append((schema, query, random_database(pick, schema)))
    return found
