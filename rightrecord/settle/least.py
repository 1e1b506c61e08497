"""Plans of the least cost, and guards, which certify that no plan costs less."""

from rightrecord.base.values import is_ascending, is_integer_below, is_tuple
from rightrecord.data.databases import check_database
from rightrecord.errors import InvalidNumber, TooMany
from rightrecord.query.queries import check_answer, check_query
from rightrecord.settle.influence import Outlook
from rightrecord.settle.plans import conflicts_only, is_position, position_after

MAX_POSITIONS = 4096
MAX_COST = 40


def least_plan(database, query, answer):
    """Return a plan of the least cost for the answer."""
    return _planner_for(database, query, answer).plan(())


def least_cost(database, query, answer):
    """Return the least cost of a plan for the answer."""
    return _planner_for(database, query, answer).cost(())


def find_guard(database, query, answer):
    """Return a guard for the answer and the least cost."""
    return _planner_for(database, query, answer).guard()


def _planner_for(database, query, answer):
    outlook = _outlook_for(database, query, answer)
    count = 1
    for name in outlook.influential({}):
        count = count * (1 + len(outlook.groups[name]))
    if count > MAX_POSITIONS:
        raise TooMany(MAX_POSITIONS)
    return Planner(outlook)


def _outlook_for(database, query, answer):
    check_database(database)
    check_query(database[0], query)
    check_answer(database[0], query, answer)
    return Outlook(database, query, answer)


def _matters_at(outlook, position):
    """Return the names of the groups that matter at a position, ascending."""
    return outlook.influential({(table, key): record for table, key, record in position})


class Planner:
    """Finds the cheapest way to ask on from each position of the groups that matter.

    Only groups that matter at a position are asked there: any other one would leave the answer open,
    and would leave all other groups as they were.
    """

    def __init__(self, outlook):
        self.outlook = outlook
        self.groups = outlook.groups
        self.known = {}

    def cost(self, position):
        """Return the least cost of a plan from a position on."""
        return self._best(position)[0]

    def _best(self, position):
        """Return the pair of the least cost from a position on, and the name of a group to ask first, or None."""
        if position not in self.known:
            best = None
            for name in _matters_at(self.outlook, position):
                worst = 1 + max([self.cost(position_after(position, name, record)) for record in self.groups[name]])
                if best is None or worst < best[0]:
                    best = (worst, name)
            self.known[position] = (0, None) if best is None else best
        return self.known[position]

    def plan(self, position):
        """Return a plan of the least cost from a position on."""
        _, name = self._best(position)
        if name is None:
            return ("stop",)
        after = [(record, self.plan(position_after(position, name, record))) for record in self.groups[name]]
        return ("ask",) + name + (tuple(after),)

    def guard(self):
        """Return a guard for the least cost: positions from which on enough is left to ask."""
        positions = []
        level = [()]
        for _ in range(self.cost(())):
            positions.extend(level)
            level = sorted({self._hardest(position, name) for position in level
                            for name in _matters_at(self.outlook, position)})
        return tuple(sorted(positions))

    def _hardest(self, position, name):
        """Return the position with one more record, of a group, from which on most is left to ask."""
        after = [position_after(position, name, record) for record in self.groups[name]]
        costs = [self.cost(other) for other in after]
        return after[costs.index(max(costs))]


def is_guard(database, query, answer, cost, value):
    """Return whether the value is a guard for the answer and the cost."""
    check_database(database)
    check_query(database[0], query)
    check_answer(database[0], query, answer)
    if not is_integer_below(cost, MAX_COST + 1):
        raise InvalidNumber(cost)
    outlook = Outlook(database, query, answer)
    if cost == 0:
        return is_tuple(value, 0, 0)
    if not _are_positions(outlook.groups, value, cost):
        return False
    if value[:1] != ((),) or not is_ascending(value):
        return False
    members = {position: True for position in value}
    return all([_is_guarded(outlook, members, position, cost) for position in value])


def _are_positions(groups, value, cost):
    """Return whether the value is a tuple of positions with fewer triples than the cost."""
    conflicting = conflicts_only(groups)
    if type(value) is not tuple:
        return False
    return all([is_position(conflicting, position) and len(position) < cost for position in value])


def _is_guarded(outlook, members, position, cost):
    """Return whether the answer is open at a position, and the members go on from it as far as the cost asks."""
    matters = _matters_at(outlook, position)
    if not matters or len(position) >= cost - 1:
        return matters != ()
    for name in matters:
        if not any([position_after(position, name, record) in members for record in outlook.groups[name]]):
            return False
    return True
