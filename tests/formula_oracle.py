"""What a formula is and means, written down once more, from its whole down to its parts; and random formulas."""

import itertools

from tests.oracle import all_rows, is_upper

DEEPER = {'not': lambda formula: formula[1:], 'and': lambda formula: formula[1], 'or': lambda formula: formula[1],
          'exists': lambda formula: formula[4:], 'forall': lambda formula: formula[4:]}
VALUES = ('u', 'v', 'w', 0, 1, 2)
VARIABLES = ('A', 'B', 'C', 'X', 'YY')


def inner(formula):
    return DEEPER.get(formula[0], lambda formula: ())(formula)


def size(formula):
    return 1 + sum(size(part) for part in inner(formula))


def depth(formula):
    return 1 + max([depth(part) for part in inner(formula)], default=0)


def words(formula):
    return [formula[0]] + [word for part in inner(formula) for word in words(part)]


def quantifiers(formula):
    return sum(word in ('exists', 'forall') for word in words(formula))


def free(formula, bound=frozenset()):
    """Return the set of the variables that occur where no quantifier around them binds them."""
    terms = ()
    if formula[0] in ('equal', 'unequal'):
        terms = formula[1:]
    if formula[0] in ('exists', 'forall'):
        bound = bound | set(formula[1])
        terms = formula[3]
    found = {term for term in terms if is_upper(term) and term not in bound}
    return found.union(*[free(part, bound) for part in inner(formula)])


def truth(formula, database, binding):
    """Return whether the formula is true; the variables of a quantifier run through all values of the database."""
    word = formula[0]
    if word in ('true', 'false'):
        return word == 'true'
    if word in ('equal', 'unequal'):
        one, other = (binding[term] if is_upper(term) else term for term in formula[1:])
        return (repr(one) == repr(other)) == (word == 'equal')
    if word == 'not':
        return not truth(formula[1], database, binding)
    if word in ('and', 'or'):
        return (all if word == 'and' else any)([truth(part, database, binding) for part in formula[1]])
    _, variables, table, terms, part = formula
    rows = all_rows(database)
    domain = sorted({value for records in rows.values() for record in records for value in record}, key=repr)
    results = []
    for values in itertools.product(domain, repeat=len(variables)):
        within = {**binding, **dict(zip(variables, values))}
        if tuple(within[term] if is_upper(term) else term for term in terms) in rows[table]:
            results.append(truth(part, database, within))
    return any(results) if word == 'exists' else all(results)


def random_formula(pick, schema, deep=4):
    """Return a formula of at most so many formulas within one another."""
    word = pick.choice(('true', 'false', 'equal', 'unequal', 'not', 'and', 'or', 'exists', 'forall', 'exists',
                        'forall', 'not') if deep > 1 else ('true', 'equal', 'unequal', 'equal'))
    if word in ('true', 'false'):
        return (word,)
    if word in ('equal', 'unequal'):
        return word, pick.choice(VALUES + VARIABLES * 3), pick.choice(VALUES + VARIABLES * 3)
    if word == 'not':
        return word, random_formula(pick, schema, deep - 1)
    if word in ('and', 'or'):
        return word, tuple(random_formula(pick, schema, deep - 1) for _ in range(pick.choice((0, 1, 2, 2, 3))))
    name, _, kinds = pick.choice(schema)
    terms = tuple(pick.choice(VALUES + VARIABLES * 4) for _ in kinds)
    variables = sorted({term for term in terms if is_upper(term) and pick.random() < 0.75})
    return word, tuple(variables), name, terms, random_formula(pick, schema, deep - 1)
