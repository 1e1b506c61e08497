"""Components of answers, and the selections of one record from each group of a component."""

from rightrecord.data.databases import check_database, conflict_owners, database_groups, rows_by_table
from rightrecord.errors import TooMany
from rightrecord.query.matching import find_witnesses
from rightrecord.query.queries import check_answer, check_query

MAX_CHOICES = 4096


def components(database, query, answer):
    """Return the components of an answer, ascending."""
    check_database(database)
    check_query(database[0], query)
    check_answer(database[0], query, answer)
    owners = conflict_owners(database_groups(database))
    return find_components(conflict_parts(query, owners, find_witnesses(query, answer, rows_by_table(database))))


def conflict_parts(query, owners, found):
    """Return a dict from the part of each witness in conflicting groups to the first witness with this part.

    A part is a tuple of pairs (group name, record).
    """
    tables = [table for table, _ in query[1]]
    parts = {}
    for witness in found:
        pairs = list(zip(tables, witness))
        parts.setdefault(tuple([(owners[pair], pair[1]) for pair in pairs if pair in owners]), witness)
    return parts


def find_components(parts):
    """Return, ascending, the components of an answer whose witnesses have these parts."""
    return connected([[name for name, _ in part] for part in parts])


def connected(links):
    """Return, ascending, the maximal sets of names that are connected by links, which are lists of names."""
    blocks = []
    for names in links:
        joined = {name: True for name in names}
        apart = []
        for block in blocks:
            if any([name in block for name in names]):
                joined.update(block)
            else:
                apart.append(block)
        blocks = apart + [joined] if joined else apart
    return tuple(sorted([tuple(sorted(block)) for block in blocks]))


def count_selections(groups, names):
    """Return how many selections of one record from each of the named groups there are."""
    count = 1
    for name in names:
        count = count * len(groups[name])
    return count


def check_selections(groups, sets):
    """Raise TooMany if one of the sets of names has more selections than allowed."""
    if any([count_selections(groups, names) > MAX_CHOICES for names in sets]):
        raise TooMany(MAX_CHOICES)


def selection_at(groups, names, number):
    """Return, as a dict from the names to records, the selection with a number; the last group changes fastest."""
    selected = {}
    for name in reversed(names):
        number, at = divmod(number, len(groups[name]))
        selected[name] = groups[name][at]
    return selected


def merged(selections):
    """Return one dict with all entries of these selections."""
    return {name: selection[name] for selection in selections for name in selection}


def numbers_with(groups, names, part):
    """Return, ascending, the numbers of the selections that take the records of a part."""
    taken = dict(part)
    numbers = [0]
    for name in names:
        records = groups[name]
        places = [records.index(taken[name])] if name in taken else list(range(len(records)))
        numbers = [number * len(records) + at for number in numbers for at in places]
    return numbers


def parts_within(parts, names):
    """Return those of the parts, none of which is empty, that lie in the named groups of a component."""
    return [part for part in parts if part[0][0] in names]


def holding_numbers(groups, names, parts):
    """Return a dict that has as keys the numbers of the selections that take all records of one of the parts."""
    holding = {}
    for part in parts:
        holding.update({number: True for number in numbers_with(groups, names, part)})
    return holding
