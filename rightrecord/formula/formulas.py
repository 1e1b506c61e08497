"""Formulas, their free variables and sizes, and formulas without negations."""

from rightrecord.base.schemas import check_schema, find_table
from rightrecord.base.values import is_ascending, is_term, is_tuple, is_variable
from rightrecord.errors import InvalidFormula
from rightrecord.query.queries import bound_among

MAX_DEPTH = 20
MAX_PARTS = 200
MAX_QUANTIFIERS = 8
MAX_LISTED = 8
CONSTANTS = ("true", "false")
COMPARISONS = ("equal", "unequal")
LISTS = ("and", "or")
QUANTIFIERS = ("exists", "forall")
OPPOSITES = {"true": "false", "false": "true", "equal": "unequal", "unequal": "equal",
             "and": "or", "or": "and", "exists": "forall", "forall": "exists"}


def is_formula(schema, value):
    """Return whether the value is a formula for the schema."""
    check_schema(schema)
    return _fits_schema(schema, value)


def _fits_schema(schema, value):
    waiting = [(value, 1, 0)]
    count = 0
    while waiting:
        part, depth, quantifiers = waiting.pop()
        count += 1
        if count > MAX_PARTS or depth > MAX_DEPTH or not _has_form(schema, part):
            return False
        if part[0] in QUANTIFIERS:
            quantifiers += 1
        if quantifiers > MAX_QUANTIFIERS:
            return False
        waiting.extend([(inner, depth + 1, quantifiers) for inner in inner_formulas(part)])
    return True


def _has_form(schema, value):
    """Return whether the value would be a formula if everything was one that stands in the place of one."""
    if not is_tuple(value, 1, 5):
        return False
    word = value[0]
    if word in CONSTANTS:
        return len(value) == 1
    if word in COMPARISONS:
        return len(value) == 3 and is_term(value[1]) and is_term(value[2])
    if word == "not":
        return len(value) == 2
    if word in LISTS:
        return len(value) == 2 and is_tuple(value[1], 0, MAX_LISTED)
    return word in QUANTIFIERS and len(value) == 5 and _is_binding(schema, value[1], value[2], value[3])


def _is_binding(schema, variables, table, terms):
    entry = find_table(schema, table)
    if entry is None or not is_tuple(terms, len(entry[2]), len(entry[2])):
        return False
    if type(variables) is not tuple or not all([is_term(term) for term in terms]):
        return False
    return all([is_variable(item) and item in terms for item in variables]) and is_ascending(variables)


def check_formula(schema, formula):
    """Raise InvalidFormula if it is not a formula for the valid schema."""
    if not _fits_schema(schema, formula):
        raise InvalidFormula("not a formula for the schema")


def inner_formulas(formula):
    """Return the formulas that stand directly within a formula."""
    if formula[0] in LISTS:
        return formula[1]
    if formula[0] in QUANTIFIERS:
        return formula[4:]
    if formula[0] == "not":
        return formula[1:]
    return ()


def free_variables(schema, formula):
    """Return the free variables, ascending."""
    check_schema(schema)
    check_formula(schema, formula)
    return find_free(formula)


def find_free(formula):
    """Return the free variables of a valid formula, ascending."""
    bound = formula[1] if formula[0] in QUANTIFIERS else ()
    terms = list(_own_terms(formula))
    for inner in inner_formulas(formula):
        terms.extend(find_free(inner))
    return bound_among(terms, bound)


def _own_terms(formula):
    """Return the terms of a formula that do not belong to a formula within it."""
    if formula[0] in COMPARISONS:
        return formula[1:]
    return formula[3] if formula[0] in QUANTIFIERS else ()


def formula_size(schema, formula):
    """Return how many formulas the formula contains, itself included."""
    check_schema(schema)
    check_formula(schema, formula)
    return len(_all_parts(formula))


def quantifier_count(schema, formula):
    """Return how many of the formulas that the formula contains are quantifiers."""
    check_schema(schema)
    check_formula(schema, formula)
    return len([part for part in _all_parts(formula) if part[0] in QUANTIFIERS])


def _all_parts(formula):
    parts = []
    waiting = [formula]
    while waiting:
        part = waiting.pop()
        parts.append(part)
        waiting.extend(inner_formulas(part))
    return parts


def push_negations(schema, formula):
    """Return a formula without "not" that is true where this one is."""
    check_schema(schema)
    check_formula(schema, formula)
    return _pushed(formula, False)


def _pushed(formula, negated):
    """Return the formula, or its negation, without "not"."""
    if formula[0] == "not":
        return _pushed(formula[1], not negated)
    word = OPPOSITES[formula[0]] if negated else formula[0]
    if word in LISTS:
        return (word, tuple([_pushed(inner, negated) for inner in formula[1]]))
    if word in QUANTIFIERS:
        return (word,) + formula[1:4] + (_pushed(formula[4], negated),)
    return (word,) + formula[1:]
