"""Contrasts, and the groups that matter for an answer."""

from rightrecord.base.schemas import check_table
from rightrecord.base.values import is_tuple
from rightrecord.certain.components import (Selections, check_selections, conflict_parts, find_components,
                                            least_number, merged, parts_within)
from rightrecord.certain.exchanges import make_choice
from rightrecord.data.choices import is_choice, unlike_groups
from rightrecord.data.databases import (check_database, check_group, conflict_owners, database_groups,
                                        rows_by_table)
from rightrecord.query.matching import find_witnesses, holds_in
from rightrecord.query.queries import check_answer, check_query


def find_contrast(database, query, answer, table, key):
    """Return a contrast of the group for the answer, or None if the group does not matter."""
    _check_group_of_answer(database, query, answer, table, key)
    return Outlook(database, query, answer).contrast((table, key))


def _check_group_of_answer(database, query, answer, table, key):
    check_database(database)
    check_query(database[0], query)
    check_answer(database[0], query, answer)
    check_table(database[0], table)
    check_group(database, table, key)


def is_contrast(database, query, answer, table, key, value):
    """Return whether the value is a contrast of the group for the answer."""
    _check_group_of_answer(database, query, answer, table, key)
    if not is_tuple(value, 2, 2) or not all([is_choice(database, choice) for choice in value]):
        return False
    if unlike_groups(database, value[0], value[1]) != ((table, key),):
        return False
    return [holds_in(database, query, answer, choice) for choice in value] == [True, False]


def influential_groups(database, query, answer):
    """Return the names of the groups that matter for the answer, ascending."""
    check_database(database)
    check_query(database[0], query)
    check_answer(database[0], query, answer)
    return Outlook(database, query, answer).influential({})


class Outlook:
    """Under which selections an answer holds, for each of its components; the arguments are valid.

    It has no fields if the answer is impossible, or certain by a witness without conflicting groups.
    Otherwise each field is a pair: the selections of a component, and the set of those under which it holds.
    """

    def __init__(self, database, query, answer):
        self.groups = database_groups(database)
        found = find_witnesses(query, answer, rows_by_table(database))
        parts = conflict_parts(query, conflict_owners(self.groups), found)
        sets = find_components(parts)
        check_selections(self.groups, sets)
        self.fields = []
        if () not in parts:
            for names in sets:
                selections = Selections(self.groups, names)
                self.fields.append((selections, selections.holding(parts_within(parts, names))))

    def influential(self, taken):
        """Return, ascending, the groups that matter where some groups have only the records of a dict.

        The answer is open there exactly if there is one.
        """
        found = []
        for selections, holding in self.fields:
            left = selections.taking([(name, taken[name]) for name in selections.names if name in taken])
            if left & ~holding == 0:
                return ()
            free = [name for name in selections.names if name not in taken]
            found.extend([name for name in free if selections.changing(name, holding & left) != 0])
        return tuple(sorted(found))

    def contrast(self, name):
        """Return a contrast of a group, or None if it does not matter."""
        if name not in self.influential({}):
            return None
        selected = []
        holds = []
        for selections, holding in self.fields:
            number = least_number(selections.every & ~holding)
            if name in selections.names:
                number = least_number(selections.changing(name, holding))
                step = selections.steps[name]
                holds = [(holding >> (number + at * step)) & 1 for at in range(len(self.groups[name]))]
            selected.append(selections.at(number))
        # The answer fails in the other components, so it holds exactly where it does in the group's own.
        pair = [{name: self.groups[name][holds.index(bit)]} for bit in (1, 0)]
        return tuple([make_choice(self.groups, merged(selected + [taken])) for taken in pair])
