"""Bounds of counts, sums, extreme values and numbers of answers over all choices."""

from rightrecord.base.schemas import find_table
from rightrecord.base.values import is_integer_below
from rightrecord.certain.components import (Selections, check_selections, conflict_parts, connected, merged,
                                            parts_within)
from rightrecord.certain.exchanges import make_choice
from rightrecord.data.databases import check_database, conflict_owners, database_groups, rows_by_table
from rightrecord.errors import InvalidNumber
from rightrecord.query.matching import fit_record, witnesses_by_answer
from rightrecord.query.queries import check_query, is_query


def is_pattern(schema, value):
    """Return whether the value is a pattern for the schema."""
    return is_query(schema, ((), (value,)))


def _check_pattern(schema, pattern):
    check_query(schema, ((), (pattern,)))


def _check_column(schema, pattern, column):
    """Raise InvalidNumber if it is not the index of a column of numbers in the pattern's table."""
    kinds = find_table(schema, pattern[0])[2]
    if not is_integer_below(column, len(kinds)) or kinds[column] != "number":
        raise InvalidNumber(column)


def count_range(database, pattern):
    """Return a range of the number of fitting records."""
    check_database(database)
    _check_pattern(database[0], pattern)
    groups = database_groups(database)
    fitting = _fitting_records(groups, pattern)
    return _sum_range(groups, {name: [(1, record) for record in fitting[name]] for name in fitting})


def sum_range(database, pattern, column):
    """Return a range of the sum of the values of the fitting records in a column."""
    fitting = _fitting_values(database, pattern, column)
    return _sum_range(database_groups(database), fitting)


def minimum_range(database, pattern, column):
    """Return a range of the smallest value of the fitting records in a column, or None if no record fits."""
    fitting = _fitting_values(database, pattern, column)
    return _minimum_range(database_groups(database), fitting)


def maximum_range(database, pattern, column):
    """Return a range of the greatest value of the fitting records in a column, or None if no record fits."""
    fitting = _fitting_values(database, pattern, column)
    negatives = {name: [(-amount, record) for amount, record in fitting[name]] for name in fitting}
    found = _minimum_range(database_groups(database), negatives)
    if found is None:
        return None
    # The greatest value is the negative of the smallest negative, so the bounds change their places.
    least, greatest = found
    return ((-greatest[0], greatest[1]), (-least[0], least[1]))


def _fitting_values(database, pattern, column):
    """Return a dict from each group of the pattern's table to the pairs (value in the column, fitting record)."""
    check_database(database)
    _check_pattern(database[0], pattern)
    _check_column(database[0], pattern, column)
    fitting = _fitting_records(database_groups(database), pattern)
    return {name: [(record[column], record) for record in fitting[name]] for name in fitting}


def _fitting_records(groups, pattern):
    """Return a dict from each group of the pattern's table to those of its records that fit."""
    table, terms = pattern
    names = [name for name in groups if name[0] == table]
    return {name: [record for record in groups[name] if fit_record(terms, record, {}) is not None] for name in names}


def _unfit_records(groups, fitting, name):
    """Return those records of a group that are not in its pairs (amount, fitting record)."""
    fit = [record for _, record in fitting[name]]
    return [record for record in groups[name] if record not in fit]


def _sum_range(groups, fitting):
    """Return a range of the sum of the amounts, from a dict from groups to pairs (amount, fitting record)."""
    lowest = {}
    highest = {}
    for name in fitting:
        pairs = fitting[name] + [(0, record) for record in _unfit_records(groups, fitting, name)]
        lowest[name] = min(pairs)
        highest[name] = max(pairs)
    return (_sum_bound(groups, lowest), _sum_bound(groups, highest))


def _sum_bound(groups, pairs):
    amounts = [amount for amount, _ in pairs.values()]
    return (sum(amounts), make_choice(groups, {name: pairs[name][1] for name in pairs}))


def _minimum_range(groups, fitting):
    """Return a range of the smallest amount, from a dict from groups to pairs (amount, fitting record), or None."""
    places = [(amount, record, name) for name in fitting for amount, record in fitting[name]]
    if not places:
        return None
    amount, record, name = min(places)
    return ((amount, make_choice(groups, {name: record})), _greatest_minimum(groups, fitting, places))


def _greatest_minimum(groups, fitting, places):
    """Return the bound of the greatest smallest amount: only where all records of a group fit, one must."""
    forced = []
    taken = {}
    for name in fitting:
        unfit = _unfit_records(groups, fitting, name)
        if unfit:
            taken[name] = unfit[0]
        else:
            amount, taken[name] = max(fitting[name])
            forced.append(amount)
    if forced:
        return (min(forced), make_choice(groups, taken))
    amount, record, place = max(places)
    taken[place] = record
    return (amount, make_choice(groups, taken))


def answer_range(database, query):
    """Return a range of the number of answers that hold in a choice."""
    check_database(database)
    check_query(database[0], query)
    groups = database_groups(database)
    owners = conflict_owners(groups)
    found = witnesses_by_answer(query, rows_by_table(database))
    parts = [conflict_parts(query, owners, found[answer]) for answer in found]
    blocks = connected([_names_of(answer_parts) for answer_parts in parts])
    check_selections(groups, blocks)
    sure = len([answer_parts for answer_parts in parts if () in answer_parts])
    unsure = [answer_parts for answer_parts in parts if () not in answer_parts]
    least = greatest = sure
    lowest = []
    highest = []
    for names in blocks:
        selections = Selections(groups, names)
        counts = _answer_counts(selections, unsure)
        least += min(counts)
        lowest.append(selections.at(counts.index(min(counts))))
        greatest += max(counts)
        highest.append(selections.at(counts.index(max(counts))))
    return ((least, make_choice(groups, merged(lowest))), (greatest, make_choice(groups, merged(highest))))


def _names_of(parts):
    """Return the names of all groups of the parts."""
    return sorted({name for part in parts for name, _ in part})


def _answer_counts(selections, unsure):
    """Return a list of how many answers hold under each selection of a block."""
    held = [selections.holding(parts_within(parts, selections.names)) for parts in unsure]
    held = [holding for holding in held if holding != 0]
    return [sum([(holding >> number) & 1 for holding in held]) for number in range(selections.count)]
