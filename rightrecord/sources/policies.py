"""Policies, and the claims that count by them."""

from rightrecord.base.schemas import check_schema, find_table
from rightrecord.base.values import is_ascending, is_name, is_tuple
from rightrecord.data.databases import gathered_rows
from rightrecord.errors import InvalidPolicy
from rightrecord.sources.claims import check_claims, placed_records

MAX_SOURCES = 8
MIN_PARTS = 2
MAX_PARTS = 4
MAX_NESTED = 3


def is_policy(value):
    """Return whether the value is a policy."""
    return _is_policy_within(value, MAX_NESTED)


def _is_policy_within(value, levels):
    """Return whether the value is a policy of at most so many policies within one another."""
    if levels == 0 or not is_tuple(value, 1, 2):
        return False
    word = value[0]
    if len(value) == 1:
        return word == "all" or word == "votes"
    if word == "chain":
        parts = value[1]
        return is_tuple(parts, MIN_PARTS, MAX_PARTS) and all([_is_policy_within(part, levels - 1) for part in parts])
    if not is_tuple(value[1], 1, MAX_SOURCES) or not all([is_name(source) for source in value[1]]):
        return False
    if word == "ranks":
        return len(set(value[1])) == len(value[1])
    return word == "trusted" and is_ascending(value[1])


def check_policy(policy):
    """Raise InvalidPolicy if it is not a policy."""
    if not is_policy(policy):
        raise InvalidPolicy("not a policy")


def counting_claims(schema, claims, policy):
    """Return the claims that count by the policy, ascending."""
    check_schema(schema)
    check_claims(schema, claims)
    check_policy(policy)
    return find_counting(schema, claims, policy)


def find_counting(schema, claims, policy):
    """Return the claims that count by the policy, ascending; the arguments are valid."""
    if policy[0] == "chain":
        for part in policy[1]:
            claims = find_counting(schema, claims, part)
        return claims
    grouped = {}
    # Keys stand in front, so in ascending claims those of one group stand together.
    for claim in claims:
        table, record, _ = claim
        grouped.setdefault((table, record[:find_table(schema, table)[1]]), []).append(claim)
    return tuple([claim for group in grouped.values() for claim in _counting_in_group(group, policy)])


def _counting_in_group(claims, policy):
    """Return those of the claims on the records of one group that count by a policy without parts."""
    if policy[0] == "all":
        return claims
    if policy[0] == "votes":
        # One claim of each source on a record: so many sources claim it as there are claims.
        votes = [len([other for other in claims if other[1] == claim[1]]) for claim in claims]
        return [claim for claim, count in zip(claims, votes) if count == max(votes)]
    places = [_place_of(claim[2], policy) for claim in claims]
    return [claim for claim, place in zip(claims, places) if place == min(places)]


def _place_of(source, policy):
    """Return a number for a source that is the lower the better the source is."""
    word, sources = policy
    if source not in sources:
        return len(sources)
    return sources.index(source) if word == "ranks" else 0


def claimed_database(schema, claims, *, policy=("all",)):
    """Return the database of the records of the claims that count by the policy."""
    return gathered_rows(schema, placed_records(counting_claims(schema, claims, policy)))
