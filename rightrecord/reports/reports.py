"""Reports: steps from the answers of queries to filtered, projected and combined tuples, and what bounds them."""

from rightrecord.base.schemas import check_schema
from rightrecord.base.values import is_integer_below, is_tuple, value_kind
from rightrecord.certain.components import MAX_CHOICES, Selections, conflict_parts, count_selections
from rightrecord.certain.verdicts import answer_kinds
from rightrecord.data.choices import check_choice, keep_chosen
from rightrecord.data.databases import (check_database, conflict_owners, conflicting_groups, database_groups,
                                        rows_by_table)
from rightrecord.errors import InvalidNumber, InvalidReport, TooMany
from rightrecord.query.matching import find_answers, witnesses_by_answer
from rightrecord.query.queries import head_kinds, is_query

MAX_STEPS = 8
PAIRS = ("union", "both", "minus")
# What a tuple belongs to, as bits: in the bounds of a step it is in lower, in upper, or in both.
IN_LOWER = 1
IN_UPPER = 2


def is_report(schema, value):
    """Return whether the value is a report for the schema."""
    check_schema(schema)
    return _all_kinds(schema, value) is not None


def _all_kinds(schema, value):
    """Return a list of the kinds of all steps, or None if the value is not a report."""
    if not is_tuple(value, 1, MAX_STEPS):
        return None
    earlier = []
    for step in value:
        kinds = _kinds_of_step(schema, step, earlier)
        if kinds is None:
            return None
        earlier.append(kinds)
    return earlier


def _kinds_of_step(schema, step, earlier):
    """Return the kinds of a step behind steps of these kinds, or None if it is no step there."""
    if not is_tuple(step, 2, 4):
        return None
    if step[0] == "query":
        return head_kinds(schema, step[1]) if len(step) == 2 and is_query(schema, step[1]) else None
    if not is_integer_below(step[1], len(earlier)):
        return None
    kinds = earlier[step[1]]
    if step[0] == "where":
        return kinds if len(step) == 4 and _is_column(kinds, step[2], step[3]) else None
    if step[0] == "columns":
        return _kinds_of_columns(kinds, step[2]) if len(step) == 3 else None
    if step[0] not in PAIRS or len(step) != 3 or not is_integer_below(step[2], len(earlier)):
        return None
    return kinds if kinds == earlier[step[2]] else None


def _is_column(kinds, column, value):
    return is_integer_below(column, len(kinds)) and value_kind(value) == kinds[column]


def _kinds_of_columns(kinds, columns):
    if not is_tuple(columns, 0, len(kinds)) or not all([is_integer_below(column, len(kinds)) for column in columns]):
        return None
    return tuple([kinds[column] for column in columns]) if len(set(columns)) == len(columns) else None


def _check_report(schema, report):
    if _all_kinds(schema, report) is None:
        raise InvalidReport("not a report for the schema")


def step_kinds(schema, report, step):
    """Return the kinds of a step."""
    check_schema(schema)
    _check_report(schema, report)
    if not is_integer_below(step, len(report)):
        raise InvalidNumber(step)
    return _all_kinds(schema, report)[step]


def report_results(database, report, choice):
    """Return the tuple of the results of all steps in a choice."""
    check_database(database)
    _check_report(database[0], report)
    check_choice(database, choice)
    rows = rows_by_table(keep_chosen(database, choice))
    found = {query: {answer: 1 for answer in find_answers(query, rows)} for query in _queries_of(report)}
    return tuple([_rows_in(cases, 1) for cases in _run(report, found, _minus)])


def report_bounds(database, report):
    """Return the tuple of the bounds of all steps."""
    check_database(database)
    _check_report(database[0], report)
    found = {query: _bounds_of_answers(database, query) for query in _queries_of(report)}
    steps = _run(report, found, _minus_in_bounds)
    return tuple([(_rows_in(cases, IN_LOWER), _rows_in(cases, IN_UPPER)) for cases in steps])


def _bounds_of_answers(database, query):
    kinds = answer_kinds(database, query)
    return {answer: (IN_LOWER | IN_UPPER) if kinds[answer] == "certain" else IN_UPPER for answer in kinds}


def exact_bounds(database, report):
    """Return the tuple of the exact bounds of all steps."""
    check_database(database)
    _check_report(database[0], report)
    groups = database_groups(database)
    if count_selections(groups, list(groups)) > MAX_CHOICES:
        raise TooMany(MAX_CHOICES)
    selections = Selections(groups, conflicting_groups(database))
    found = {query: _choices_of_answers(database, query, selections) for query in _queries_of(report)}
    bounds = []
    for cases in _run(report, found, _minus):
        always = {row: True for row in cases if cases[row] == selections.every}
        bounds.append((tuple(sorted(always)), _rows_in(cases, selections.every)))
    return tuple(bounds)


def _choices_of_answers(database, query, selections):
    """Return a dict from each possible answer to the set of the choices, as selections, in which it holds."""
    owners = conflict_owners(selections.groups)
    found = witnesses_by_answer(query, rows_by_table(database))
    return {answer: selections.holding(conflict_parts(query, owners, found[answer])) for answer in found}


def _queries_of(report):
    return [step[1] for step in report if step[0] == "query"]


def _rows_in(cases, some):
    """Return, ascending, the tuples that belong to one of some cases at least."""
    return tuple(sorted([row for row in cases if cases[row] & some != 0]))


def _run(report, found, minus):
    """Return for each step a dict from its tuples to the cases in which they are in its result.

    Cases are the bits of integers. `found` has the dict of each query; `minus` tells in which cases
    a tuple of one step stays if it is in some cases of another one.
    """
    done = []
    for step in report:
        if step[0] == "query":
            done.append(found[step[1]])
        elif step[0] == "where":
            cases = done[step[1]]
            done.append({row: cases[row] for row in cases if row[step[2]] == step[3]})
        elif step[0] == "columns":
            pairs = [(tuple([row[at] for at in step[2]]), some) for row, some in done[step[1]].items()]
            done.append(_joined(pairs))
        else:
            done.append(_combined(step[0], done[step[1]], done[step[2]], minus))
    return done


def _joined(pairs):
    """Return a dict from each tuple of the pairs (tuple, cases) to all its cases."""
    cases = {}
    for row, some in pairs:
        cases[row] = cases.get(row, 0) | some
    return cases


def _combined(word, first, second, minus):
    """Return the dict of a step that combines two earlier ones."""
    if word == "union":
        return _joined([(row, cases[row]) for cases in (first, second) for row in cases])
    if word == "both":
        return {row: first[row] & second[row] for row in first if row in second}
    return {row: minus(first[row], second.get(row, 0)) for row in first}


def _minus(first, second):
    return first & ~second


def _minus_in_bounds(first, second):
    """Lower is without the upper bound of the second step, and upper is without its lower bound."""
    lower = 0 if second & IN_UPPER else first & IN_LOWER
    upper = 0 if second & IN_LOWER else first & IN_UPPER
    return lower | upper
