"""Choices of one record of each group, and their numbers."""

from rightrecord.base.schemas import check_table
from rightrecord.base.values import is_integer_below, is_one_of, is_tuple
from rightrecord.data.databases import build_database, check_database, check_group, database_groups
from rightrecord.errors import InvalidChoice, InvalidNumber, InvalidRecord


def is_choice(database, value):
    """Return whether the value is a choice of the database."""
    check_database(database)
    return _takes_one_of_each(database, value)


def _takes_one_of_each(database, value):
    groups = database_groups(database)
    if not is_tuple(value, len(groups), len(groups)):
        return False
    return all([is_one_of(record, groups[name]) for name, record in zip(groups, value)])


def check_choice(database, choice):
    """Raise InvalidChoice if it is not a choice of the valid database."""
    if not _takes_one_of_each(database, choice):
        raise InvalidChoice("not a choice of the database")


def count_choices(database):
    """Return how many choices the database has."""
    check_database(database)
    count = 1
    groups = database_groups(database)
    for records in groups.values():
        count = count * len(records)
    return count


def choice_at(database, number):
    """Return the choice with this number."""
    if not is_integer_below(number, count_choices(database)):
        raise InvalidNumber(number)
    chosen = []
    # The last group changes fastest, so its record is the lowest digit of the number.
    for records in reversed(list(database_groups(database).values())):
        number, at = divmod(number, len(records))
        chosen.append(records[at])
    return tuple(reversed(chosen))


def choice_number(database, choice):
    """Return the number of a choice."""
    check_database(database)
    check_choice(database, choice)
    number = 0
    groups = database_groups(database)
    for name, record in zip(groups, choice):
        number = number * len(groups[name]) + groups[name].index(record)
    return number


def chosen_record(database, choice, table, key):
    """Return the record that the choice takes of a group."""
    check_database(database)
    check_choice(database, choice)
    check_table(database[0], table)
    check_group(database, table, key)
    return choice[_group_position(database, table, key)]


def _group_position(database, table, key):
    return list(database_groups(database)).index((table, key))


def chosen_database(database, choice):
    """Return the database of only the chosen records."""
    check_database(database)
    check_choice(database, choice)
    return keep_chosen(database, choice)


def keep_chosen(database, choice):
    """Return the database of only the records of a valid choice."""
    groups = database_groups(database)
    return build_database(database[0], [(name[0], record) for name, record in zip(groups, choice)])


def swapped(database, choice, table, key, record):
    """Return the choice that takes this record of the group and otherwise agrees."""
    check_database(database)
    check_choice(database, choice)
    check_table(database[0], table)
    check_group(database, table, key)
    if not is_one_of(record, database_groups(database)[table, key]):
        raise InvalidRecord("not a record of the group")
    at = _group_position(database, table, key)
    return choice[:at] + (record,) + choice[at + 1:]


def unlike_groups(database, choice, other):
    """Return the names of the groups in which the two choices differ, ascending."""
    check_database(database)
    check_choice(database, choice)
    check_choice(database, other)
    groups = database_groups(database)
    return tuple([name for name, one, two in zip(groups, choice, other) if one != two])
