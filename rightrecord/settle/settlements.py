"""Settlements, the records that they admit, and the database that they leave."""

from rightrecord.base.schemas import check_schema, check_table, find_table
from rightrecord.base.values import has_kinds, is_ascending, is_tuple
from rightrecord.data.databases import MAX_GROUP, check_database, check_group, database_groups, gathered_rows
from rightrecord.errors import InvalidSettlement

MAX_SETTLEMENTS = 60


def is_settlement(schema, value):
    """Return whether the value is a settlement for the schema."""
    check_schema(schema)
    return fits_settlement(schema, value)


def fits_settlement(schema, value):
    """Return whether the value is a settlement for the valid schema."""
    if not is_tuple(value, 3, 3):
        return False
    table, key, records = value
    entry = find_table(schema, table)
    if entry is None or not is_tuple(records, 1, MAX_GROUP):
        return False
    _, size, kinds = entry
    if not has_kinds(key, kinds[:size]) or not all([has_kinds(record, kinds) for record in records]):
        return False
    return all([record[:size] == key for record in records]) and is_ascending(records)


def are_settlements(schema, value):
    """Return whether the value is settlements for the schema."""
    check_schema(schema)
    return fit_settlements(schema, value)


def fit_settlements(schema, value):
    """Return whether the value is settlements for the valid schema."""
    if not is_tuple(value, 0, MAX_SETTLEMENTS):
        return False
    return all([fits_settlement(schema, item) for item in value]) and is_ascending(value)


def check_settlements(schema, settlements):
    """Raise InvalidSettlement if they are not settlements for the valid schema."""
    if not fit_settlements(schema, settlements):
        raise InvalidSettlement("not settlements for the schema")


def admitted_records(database, settlements, table, key):
    """Return the admitted records of a group, ascending."""
    check_database(database)
    check_settlements(database[0], settlements)
    check_table(database[0], table)
    check_group(database, table, key)
    records = database_groups(database)[table, key]
    return _settled_records(settlements, (table, key), records) or records


def _settled_records(settlements, name, records):
    """Return those of the records of a group that belong to all its settlements."""
    stated = [rows for table, key, rows in settlements if (table, key) == name]
    return tuple([record for record in records if all([record in rows for rows in stated])])


def settled_database(database, settlements):
    """Return the database of the admitted records of all groups."""
    check_database(database)
    check_settlements(database[0], settlements)
    return find_settled(database, settlements)


def find_settled(database, settlements):
    """Return the database of the admitted records of all groups; the arguments are valid."""
    groups = database_groups(database)
    pairs = []
    for name in groups:
        admitted = _settled_records(settlements, name, groups[name]) or groups[name]
        pairs.extend([(name[0], record) for record in admitted])
    return gathered_rows(database[0], pairs)


def disputed_groups(database, settlements):
    """Return the names of the disputed groups, ascending."""
    check_database(database)
    check_settlements(database[0], settlements)
    return find_disputed(database, settlements)


def find_disputed(database, settlements):
    """Return the names of the disputed groups, ascending; the arguments are valid."""
    groups = database_groups(database)
    return tuple([name for name in groups if _settled_records(settlements, name, groups[name]) == ()])
