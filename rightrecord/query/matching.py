"""Matches of queries, in all records of a database and in the records of a choice."""

from rightrecord.base.values import is_one_of, is_tuple, is_variable
from rightrecord.data.choices import check_choice, chosen_record, keep_chosen
from rightrecord.data.databases import check_database, rows_by_table
from rightrecord.query.queries import check_answer, check_query


def fit_record(terms, record, values):
    """Return the values of variables with those that a fitting record adds, or None if it does not fit."""
    fitted = dict(values)
    for term, value in zip(terms, record):
        expected = fitted.setdefault(term, value) if is_variable(term) else term
        if expected != value:
            return None
    return fitted


def find_matches(atoms, rows, values):
    """Return the matches that agree with some values of variables, as pairs (witness, values of all variables).

    The rows are a dict from each table to its records. The witnesses ascend if the records do.
    """
    found = [((), values)]
    for table, terms in atoms:
        longer = []
        for witness, known in found:
            for record in rows[table]:
                fitted = fit_record(terms, record, known)
                if fitted is not None:
                    longer.append((witness + (record,), fitted))
        found = longer
    return found


def find_answers(query, rows):
    """Return the answers of all matches in the rows, ascending."""
    head, atoms = query
    return tuple(sorted({_head_values(head, matched[1]) for matched in find_matches(atoms, rows, {})}))


def _head_values(head, values):
    return tuple([values[variable] for variable in head])


def find_witnesses(query, answer, rows):
    """Return the records of all matches in the rows that give the head its values of the answer, ascending."""
    head, atoms = query
    return tuple([matched[0] for matched in find_matches(atoms, rows, dict(zip(head, answer)))])


def witnesses_by_answer(query, rows):
    """Return a dict from each answer of a match in the rows to the records of its matches, all ascending."""
    head, atoms = query
    grouped = {}
    for witness, values in find_matches(atoms, rows, {}):
        grouped.setdefault(_head_values(head, values), []).append(witness)
    return {answer: tuple(grouped[answer]) for answer in sorted(grouped)}


def possible_answers(database, query):
    """Return the answers that have a witness, ascending."""
    check_database(database)
    check_query(database[0], query)
    return find_answers(query, rows_by_table(database))


def witnesses(database, query, answer):
    """Return the witnesses of an answer, ascending."""
    check_database(database)
    check_query(database[0], query)
    check_answer(database[0], query, answer)
    return find_witnesses(query, answer, rows_by_table(database))


def is_witness(database, query, answer, value):
    """Return whether the value is a witness of the answer."""
    check_database(database)
    check_query(database[0], query)
    check_answer(database[0], query, answer)
    return is_witness_in(query, answer, rows_by_table(database), value)


def is_witness_in(query, answer, rows, value):
    """Return whether the value is the tuple of the records of a match in the rows with these head values."""
    head, atoms = query
    if not is_tuple(value, len(atoms), len(atoms)):
        return False
    known = dict(zip(head, answer))
    for (table, terms), record in zip(atoms, value):
        if not is_one_of(record, rows[table]):
            return False
        known = fit_record(terms, record, known)
        if known is None:
            return False
    return True


def answers_in(database, query, choice):
    """Return the answers that hold in a choice, ascending."""
    check_database(database)
    check_query(database[0], query)
    check_choice(database, choice)
    return find_answers(query, rows_by_table(keep_chosen(database, choice)))


def holds_in(database, query, answer, choice):
    """Return whether the answer holds in a choice."""
    check_database(database)
    check_query(database[0], query)
    check_answer(database[0], query, answer)
    check_choice(database, choice)
    return find_witnesses(query, answer, rows_by_table(keep_chosen(database, choice))) != ()


def answers_through(database, query, choice, table, key):
    """Return the answers of the matches that use the chosen record of a group, ascending."""
    check_database(database)
    check_query(database[0], query)
    record = chosen_record(database, choice, table, key)
    if table not in [atom[0] for atom in query[1]]:
        return ()
    rows = rows_by_table(keep_chosen(database, choice))
    rows[table] = (record,)
    return find_answers(query, rows)
