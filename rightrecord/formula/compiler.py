"""Queries compiled into formulas that are true exactly for the certain answers."""

from rightrecord.attack.graphs import check_acyclic, elimination_order
from rightrecord.base.schemas import check_schema, find_table
from rightrecord.base.values import is_variable
from rightrecord.data.databases import check_database, rows_by_table
from rightrecord.formula.evaluation import Evaluation
from rightrecord.query.matching import find_answers
from rightrecord.query.queries import bound_among, check_query

LETTERS = "ABCDEFGHIJKLMNOPQRSTUVWXYZ"


def compile_query(schema, query):
    """Return a formula that is true, under the values of an answer, exactly if the answer is certain."""
    check_schema(schema)
    check_query(schema, query)
    check_acyclic(schema, query)
    head, atoms = query
    order = elimination_order(schema, query)
    return _formula_for(schema, tuple([atoms[at] for at in order]), head, _spare_variables(atoms))


def _spare_variables(atoms):
    """Return variables that no atom has, at least as many as a table has columns."""
    used = [term for _, terms in atoms for term in terms]
    # Four atoms have at most sixteen variables, so at least ten letters are left.
    return tuple([letter for letter in LETTERS if letter not in used])


def _formula_for(schema, atoms, known, spare):
    """Return the formula that is true if the atoms are certain under the values of the known variables.

    The atoms are those behind a place of the elimination order: some group has records whose keys
    fit the first one, and each record of this group fits it and makes the later ones certain.
    """
    if not atoms:
        return ("true",)
    table, terms = atoms[0]
    size = find_table(schema, table)[1]
    key, others = terms[:size], terms[size:]
    unequal = spare[:len(others)]
    fresh = bound_among(key, known)
    columns = _column_variables(others, known + fresh, unequal)
    tests = [("equal", column, term) for column, term in zip(columns, others) if column != term]
    later = _formula_for(schema, atoms[1:], known + bound_among(terms, known), spare)
    every = ("forall", tuple(sorted(columns)), table, key + columns, _all_of(tests, later))
    return ("exists", tuple(sorted(fresh + unequal)), table, key + unequal, every)


def _column_variables(terms, known, spare):
    """Return a variable for each term: the term itself where it is a new variable, otherwise a spare one."""
    columns = ()
    for term, other in zip(terms, spare):
        is_new = is_variable(term) and term not in known and term not in columns
        columns = columns + ((term,) if is_new else (other,))
    return columns


def _all_of(tests, later):
    parts = tests if later == ("true",) else tests + [later]
    if len(parts) == 1:
        return parts[0]
    return ("and", tuple(parts)) if parts else later


def certain_by_formula(database, query):
    """Return the certain answers of a query without a cycle, ascending."""
    check_database(database)
    check_query(database[0], query)
    rows = rows_by_table(database)
    evaluation = Evaluation(compile_query(database[0], query), rows)
    head = query[0]
    return tuple([answer for answer in find_answers(query, rows) if evaluation.is_true(dict(zip(head, answer)))])
