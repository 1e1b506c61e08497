"""Schemas, their tables, and the records of a table."""

from rightrecord.base.values import has_kinds, is_ascending, is_integer_below, is_name, is_tuple
from rightrecord.errors import InvalidRecord, InvalidSchema, UnknownName

MAX_TABLES = 6
MAX_COLUMNS = 4
KINDS = ("name", "number")


def is_schema(value):
    """Return whether the value is a schema."""
    if not is_tuple(value, 1, MAX_TABLES):
        return False
    if not all([_is_table(entry) for entry in value]):
        return False
    return is_ascending([entry[0] for entry in value])


def _is_table(value):
    if not is_tuple(value, 3, 3):
        return False
    name, size, kinds = value
    if not is_name(name) or not is_tuple(kinds, 1, MAX_COLUMNS):
        return False
    return all([kind in KINDS for kind in kinds]) and is_integer_below(size, len(kinds) + 1)


def check_schema(schema):
    """Raise InvalidSchema if it is not a schema."""
    if not is_schema(schema):
        raise InvalidSchema("not a schema")


def find_table(schema, table):
    """Return the table of a valid schema that has this name, or None."""
    for entry in schema:
        if entry[0] == table:
            return entry
    return None


def check_table(schema, table):
    """Raise UnknownName if the valid schema has no table of this name."""
    if find_table(schema, table) is None:
        raise UnknownName(table)


def check_record(schema, table, record):
    """Raise InvalidRecord if it is not a record of the table, which the schema has."""
    if not has_kinds(record, find_table(schema, table)[2]):
        raise InvalidRecord("not a record of the table")


def table_names(schema):
    """Return the names of the tables, ascending."""
    check_schema(schema)
    return tuple([entry[0] for entry in schema])


def key_size(schema, table):
    """Return how many columns the key of the table has."""
    check_schema(schema)
    check_table(schema, table)
    return find_table(schema, table)[1]


def column_kinds(schema, table):
    """Return the kinds of the columns of the table."""
    check_schema(schema)
    check_table(schema, table)
    return find_table(schema, table)[2]


def is_record(schema, table, value):
    """Return whether the value is a record of the table."""
    check_schema(schema)
    check_table(schema, table)
    return has_kinds(value, find_table(schema, table)[2])


def record_key(schema, table, record):
    """Return the key of a record of the table."""
    check_schema(schema)
    check_table(schema, table)
    check_record(schema, table, record)
    return record[:find_table(schema, table)[1]]
