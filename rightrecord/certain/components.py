"""Components of answers, and the selections of one record from each group of a component."""

from rightrecord.data.databases import check_database, conflict_owners, database_groups, rows_by_table
from rightrecord.errors import TooMany
from rightrecord.query.matching import find_witnesses
from rightrecord.query.queries import check_answer, check_query

MAX_CHOICES = 4096


def components(database, query, answer):
    """Return the components of an answer, ascending."""
    check_database(database)
    check_query(database[0], query)
    check_answer(database[0], query, answer)
    owners = conflict_owners(database_groups(database))
    return find_components(conflict_parts(query, owners, find_witnesses(query, answer, rows_by_table(database))))


def conflict_parts(query, owners, found):
    """Return a dict from the part of each witness in conflicting groups to the first witness with this part.

    A part is a tuple of pairs (group name, record).
    """
    tables = [table for table, _ in query[1]]
    parts = {}
    for witness in found:
        pairs = list(zip(tables, witness))
        parts.setdefault(tuple([(owners[pair], pair[1]) for pair in pairs if pair in owners]), witness)
    return parts


def find_components(parts):
    """Return, ascending, the components of an answer whose witnesses have these parts."""
    return connected([[name for name, _ in part] for part in parts])


def connected(links):
    """Return, ascending, the maximal sets of names that are connected by links, which are lists of names."""
    blocks = []
    for names in links:
        joined = {name: True for name in names}
        apart = []
        for block in blocks:
            if any([name in block for name in names]):
                joined.update(block)
            else:
                apart.append(block)
        blocks = apart + [joined] if joined else apart
    return tuple(sorted([tuple(sorted(block)) for block in blocks]))


def count_selections(groups, names):
    """Return how many selections of one record from each of the named groups there are."""
    count = 1
    for name in names:
        count = count * len(groups[name])
    return count


def largest_count(groups, sets):
    """Return the greatest number of selections that one of the sets of names has, 0 if there is none."""
    return max([count_selections(groups, names) for names in sets], default=0)


def check_selections(groups, sets):
    """Raise TooMany if one of the sets of names has more selections than allowed."""
    if largest_count(groups, sets) > MAX_CHOICES:
        raise TooMany(MAX_CHOICES)


def merged(selections):
    """Return one dict with all entries of these selections."""
    return {name: selection[name] for selection in selections for name in selection}


def parts_within(parts, names):
    """Return those of the parts, none of which is empty, that lie in the named groups of a component."""
    return [part for part in parts if part[0][0] in names]


class Selections:
    """The selections of one record from each of some groups, in the order of choices: the last group changes fastest.

    A set of selections is an integer: its bit with the number of a selection tells whether it has this one.
    """

    def __init__(self, groups, names):
        self.groups = groups
        self.names = names
        self.count = count_selections(groups, names)
        self.every = (1 << self.count) - 1
        self.steps = {}
        self.takers = {}
        step = self.count
        for name in names:
            round_length = step
            step = step // len(groups[name])
            self.steps[name] = step
            # The records of a group take turns: each stands in as many selections in a row as the step says.
            starts = self.every // ((1 << round_length) - 1)
            for at, record in enumerate(groups[name]):
                self.takers[name, record] = (starts * ((1 << step) - 1)) << (at * step)

    def at(self, number):
        """Return, as a dict from the names to records, the selection with a number."""
        return {name: self.groups[name][number // self.steps[name] % len(self.groups[name])] for name in self.names}

    def taking(self, part):
        """Return the set of the selections that take all records of a part."""
        found = self.every
        for pair in part:
            found = found & self.takers[pair]
        return found

    def holding(self, parts):
        """Return the set of the selections that take all records of one of the parts at least."""
        found = 0
        for part in parts:
            found = found | self.taking(part)
        return found

    def changing(self, name, chosen):
        """Return a set of selections that take the first record of a group, and that enter or leave the chosen
        set if they take another record of it."""
        some = 0
        common = self.every
        for at, record in enumerate(self.groups[name]):
            moved = (chosen & self.takers[name, record]) >> (at * self.steps[name])
            some = some | moved
            common = common & moved
        return some & ~common


def least_number(chosen):
    """Return the number of the first selection of a set that is not empty."""
    return (chosen & -chosen).bit_length() - 1
