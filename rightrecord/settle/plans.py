"""Positions, and plans that tell which conflicting groups to ask until an answer is certain or impossible."""

from rightrecord.base.values import is_ascending, is_one_of, is_tuple
from rightrecord.certain.components import MAX_CHOICES
from rightrecord.certain.trees import are_branches, has_zero_or_one
from rightrecord.certain.verdicts import judge_of
from rightrecord.data.choices import check_choice
from rightrecord.data.databases import check_database, database_groups, has_group, rows_by_table
from rightrecord.errors import InvalidPlan, TooMany
from rightrecord.query.matching import find_witnesses
from rightrecord.query.queries import check_answer, check_query


def conflicts_only(groups):
    """Return the groups of a dict that have at least two records."""
    return {name: groups[name] for name in groups if len(groups[name]) > 1}


def is_position(conflicting, value):
    """Return whether the value is a position of the database with these conflicting groups."""
    if type(value) is not tuple or not all([_is_step(conflicting, step) for step in value]):
        return False
    return is_ascending([step[:2] for step in value])


def _is_step(conflicting, value):
    if not is_tuple(value, 3, 3):
        return False
    table, key, record = value
    return has_group(conflicting, table, key) and is_one_of(record, conflicting[table, key])


def position_after(position, name, record):
    """Return the position with one more group, which has turned out to have this right record."""
    return tuple(sorted(position + (name + (record,),)))


def is_plan(database, query, answer, value):
    """Return whether the value is a plan for the answer."""
    _check_answer_of(database, query, answer)
    return _has_form(database, value) and _is_settled(database, query, answer, value)


def _check_answer_of(database, query, answer):
    check_database(database)
    check_query(database[0], query)
    check_answer(database[0], query, answer)


def plan_cost(database, query, answer, plan):
    """Return the largest number of groups that a plan asks on a path."""
    _check_answer_of(database, query, answer)
    _check_form(database, plan)
    _check_settled(database, query, answer, plan)
    return _cost(plan)


def follow_plan(database, query, answer, plan, choice):
    """Return the position at which the plan stops if the records of the choice are right."""
    _check_answer_of(database, query, answer)
    _check_form(database, plan)
    check_choice(database, choice)
    _check_settled(database, query, answer, plan)
    groups = database_groups(database)
    taken = dict(zip(groups, choice))
    position = ()
    while plan[0] == "ask":
        name = plan[1:3]
        position = position_after(position, name, taken[name])
        plan = plan[3][groups[name].index(taken[name])][1]
    return position


def _check_form(database, plan):
    if not _has_form(database, plan):
        raise InvalidPlan("not a plan of the database")


def _check_settled(database, query, answer, plan):
    if not _is_settled(database, query, answer, plan):
        raise InvalidPlan("the plan stops where the answer is open")


def _has_form(database, value):
    conflicting = conflicts_only(database_groups(database))
    return _has_form_below(conflicting, has_zero_or_one(conflicting), value, ())


def _has_form_below(conflicting, careful, value, above):
    """Return whether the value has the form of a plan behind the groups that are named above it."""
    if is_tuple(value, 1, 1) and value[0] == "stop":
        return True
    if not is_tuple(value, 4, 4) or value[0] != "ask":
        return False
    _, table, key, branches = value
    if not has_group(conflicting, table, key) or (table, key) in above:
        return False
    if not are_branches(branches, conflicting[table, key]):
        return False
    for at, branch in enumerate(branches):
        # Plans may share parts, so that a small value stands for a huge plan; equal neighbours are checked once.
        # But True equals 1: where a record has 0 or 1, equal values may differ.
        if at == 0 or careful or branch[1] != branches[at - 1][1]:
            if not _has_form_below(conflicting, careful, branch[1], above + ((table, key),)):
                return False
    return True


def _cost(plan):
    if plan[0] == "stop":
        return 0
    parts = [part for _, part in plan[3]]
    unlike = parts[:1] + [part for before, part in zip(parts, parts[1:]) if part != before]
    return 1 + max([_cost(part) for part in unlike])


def _is_settled(database, query, answer, plan):
    """Return whether the answer is certain or impossible at every stop of what has the form of a plan.

    Raises TooMany if it cannot be classified at one of them, also where it is open at another one.
    """
    found = find_witnesses(query, answer, rows_by_table(database))
    return _is_settled_below(judge_of(database, query), answer, found, plan)


def _is_settled_below(judge, answer, found, plan):
    small = judge.is_small(found)
    # What is certain or impossible stays so, and small components never grow, whatever else is asked.
    if small and judge.kind(answer, found) != "open":
        return True
    if plan[0] == "stop" and not small:
        raise TooMany(MAX_CHOICES)
    if plan[0] == "stop":
        return False
    name = plan[1:3]
    lefts = [_witnesses_left(judge, found, name, record) for record, _ in plan[3]]
    # A group that no witness uses makes no difference: only the plans behind its records may differ.
    is_unused = all([len(left) == len(found) for left in lefts])
    settled = True
    for at, (record, part) in enumerate(plan[3]):
        is_same = is_unused and at > 0 and part == plan[3][at - 1][1]
        if not is_same and (settled or not small):
            settled = _is_settled_below(judge.after(name, record), answer, lefts[at], part) and settled
    return settled


def _witnesses_left(judge, found, name, record):
    """Return the witnesses that do not use another record of a group."""
    tables = [table for table, _ in judge.query[1]]
    if name[0] not in tables:
        return found
    at = tables.index(name[0])
    others = [other for other in judge.groups[name] if other != record]
    return tuple([witness for witness in found if witness[at] not in others])
