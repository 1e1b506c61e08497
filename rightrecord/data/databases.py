"""Databases and their groups of records."""

from rightrecord.base.schemas import check_record, check_schema, check_table, find_table, is_schema
from rightrecord.base.values import has_kinds, is_ascending, is_one_of, is_tuple
from rightrecord.errors import InvalidDatabase, InvalidRecord, TooMany, UnknownGroup

MAX_RECORDS = 40
MAX_GROUP = 6


def is_database(value):
    """Return whether the value is a database."""
    if not is_tuple(value, 2, 2) or not is_schema(value[0]):
        return False
    schema, rows = value
    if not is_tuple(rows, len(schema), len(schema)):
        return False
    if not all([_are_rows(entry, records) for entry, records in zip(schema, rows)]):
        return False
    return exceeded_limit(value) is None


def _are_rows(entry, value):
    if type(value) is not tuple:
        return False
    if not all([has_kinds(record, entry[2]) for record in value]):
        return False
    return is_ascending(value)


def exceeded_limit(database):
    """Return the first limit that the records of what may be a database exceed, or None."""
    if sum([len(records) for records in database[1]]) > MAX_RECORDS:
        return MAX_RECORDS
    groups = database_groups(database)
    if max([len(records) for records in groups.values()], default=0) > MAX_GROUP:
        return MAX_GROUP
    return None


def check_database(database):
    """Raise InvalidDatabase if it is not a database."""
    if not is_database(database):
        raise InvalidDatabase("not a database")


def make_database(schema, records):
    """Return the database with the records of the pairs (table, record)."""
    check_schema(schema)
    if type(records) is not tuple:
        raise InvalidRecord("not a tuple of pairs")
    if not all([_is_placed_record(schema, pair) for pair in records]):
        raise InvalidRecord("not a pair of a table and a record of it")
    return build_database(schema, records)


def _is_placed_record(schema, value):
    if not is_tuple(value, 2, 2):
        return False
    table, record = value
    entry = find_table(schema, table)
    return entry is not None and has_kinds(record, entry[2])


def build_database(schema, pairs):
    """Return the database with the records of the valid pairs, or raise TooMany."""
    database = gathered_rows(schema, pairs)
    limit = exceeded_limit(database)
    if limit is not None:
        raise TooMany(limit)
    return database


def gathered_rows(schema, pairs):
    """Return the schema with the records of the valid pairs, which is a database if no limit is exceeded."""
    return (schema, tuple([_rows_among(pairs, entry[0]) for entry in schema]))


def _rows_among(pairs, table):
    return tuple(sorted({record for name, record in pairs if name == table}))


def rows_by_table(database):
    """Return a dict from the name of each table to its records."""
    schema, rows = database
    return {entry[0]: records for entry, records in zip(schema, rows)}


def database_groups(database):
    """Return a dict from the name of each group to its records, all ascending."""
    schema, rows = database
    groups = {}
    # Keys stand in front, so ascending records have ascending keys.
    for entry, records in zip(schema, rows):
        for record in records:
            groups.setdefault((entry[0], record[:entry[1]]), []).append(record)
    return {name: tuple(groups[name]) for name in groups}


def has_group(groups, table, key):
    """Return whether one of the groups has this table and this key, which may be any values."""
    return is_one_of(key, [name[1] for name in groups if name[0] == table])


def check_group(database, table, key):
    """Raise UnknownGroup if the database has no group with this key in its table."""
    if not has_group(database_groups(database), table, key):
        raise UnknownGroup((table, key))


def conflict_owners(groups):
    """Return a dict from the pair (table, record) of each record of a conflicting group to the name of the group."""
    conflicting = [name for name in groups if len(groups[name]) > 1]
    return {(name[0], record): name for name in conflicting for record in groups[name]}


def table_rows(database, table):
    """Return the records of a table, ascending."""
    check_database(database)
    check_table(database[0], table)
    return rows_by_table(database)[table]


def group_names(database):
    """Return the names of all groups, ascending."""
    check_database(database)
    return tuple(database_groups(database))


def group_records(database, table, key):
    """Return the records of a group, ascending."""
    check_database(database)
    check_table(database[0], table)
    check_group(database, table, key)
    return database_groups(database)[table, key]


def conflicting_groups(database):
    """Return the names of the groups with at least two records, ascending."""
    check_database(database)
    groups = database_groups(database)
    return tuple([name for name in groups if len(groups[name]) > 1])


def with_record(database, table, record):
    """Return the database with the record added, if it is not there already."""
    check_database(database)
    check_table(database[0], table)
    check_record(database[0], table, record)
    return build_database(database[0], _placed_records(database) + [(table, record)])


def without_record(database, table, record):
    """Return the database with the record removed, if it is there."""
    check_database(database)
    check_table(database[0], table)
    check_record(database[0], table, record)
    kept = [pair for pair in _placed_records(database) if pair != (table, record)]
    return build_database(database[0], kept)


def _placed_records(database):
    schema, rows = database
    return [(entry[0], record) for entry, records in zip(schema, rows) for record in records]
