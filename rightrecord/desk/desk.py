"""A desk, which has claims, settlements, a policy and watched queries, and tells what operations change."""

from rightrecord.base.schemas import check_schema
from rightrecord.base.values import is_name, is_tuple
from rightrecord.certain.verdicts import answer_kinds, find_decision
from rightrecord.data.databases import gathered_rows
from rightrecord.errors import InvalidClaims, InvalidOperation, InvalidSettlement, TooMany, UnknownName
from rightrecord.query.queries import check_answer, check_query
from rightrecord.settle.settlements import (MAX_SETTLEMENTS, check_settlements, find_disputed, find_settled,
                                            fits_settlement)
from rightrecord.sources.claims import check_claims, exceeded_claims_limit, fits_claim, placed_records
from rightrecord.sources.policies import check_policy, find_counting

MAX_WATCHED = 6


class Desk:
    """A schema, a policy, claims, settlements and watched queries, with the operations that led to them.

    What the desk has is one dict, its holdings. An operation makes new holdings and never changes the old ones.
    """

    def __init__(self, schema, *, policy=("all",), claims=(), settlements=()):
        check_schema(schema)
        check_policy(policy)
        check_claims(schema, claims)
        check_settlements(schema, settlements)
        self._holdings = {"schema": schema, "policy": policy, "claims": claims, "settlements": settlements,
                          "watched": {}}
        self._done = []
        self._known_kinds = {}

    def schema(self):
        """Return the schema."""
        return self._holdings["schema"]

    def claims(self):
        """Return the claims, ascending."""
        return self._holdings["claims"]

    def settlements(self):
        """Return the settlements, ascending."""
        return self._holdings["settlements"]

    def policy(self):
        """Return the policy."""
        return self._holdings["policy"]

    def watched(self):
        """Return a dict from each name to the query that is watched under it, ascending."""
        watched = self._holdings["watched"]
        return {name: watched[name] for name in watched}

    def database(self):
        """Return the database of the counting claims, settled by the settlements."""
        return _database_of(self._holdings)

    def disputed(self):
        """Return the names of the disputed groups, ascending."""
        return find_disputed(_claimed_by(self._holdings), self._holdings["settlements"])

    def log(self):
        """Return the operations that have not been undone, in order."""
        return tuple([operation for operations, _ in self._done for operation in operations])

    def __len__(self):
        return len(self._holdings["claims"])

    def __str__(self):
        return f"desk with {len(self._holdings['claims'])} claims, {len(self._holdings['settlements'])} settlements"

    def __eq__(self, other):
        return isinstance(other, Desk) and self._holdings == other._holdings

    def claim(self, table, record, source):
        """Add a claim and return the news."""
        return self._perform((("claim", (table, record, source)),))

    def withdraw(self, table, record, source):
        """Remove a claim and return the news."""
        return self._perform((("withdraw", (table, record, source)),))

    def settle(self, table, key, records):
        """Add a settlement and return the news."""
        return self._perform((("settle", (table, key, records)),))

    def release(self, table, key, records):
        """Remove a settlement and return the news."""
        return self._perform((("release", (table, key, records)),))

    def set_policy(self, policy):
        """Set the policy and return the news."""
        return self._perform((("policy", policy),))

    def watch(self, name, query):
        """Watch a query under a name and return the news."""
        return self._perform((("watch", (name, query)),))

    def unwatch(self, name):
        """Watch a query no longer and return the news."""
        return self._perform((("unwatch", name),))

    def apply(self, operation):
        """Perform an operation and return its news."""
        return self._perform((operation,))

    def apply_all(self, operations):
        """Perform the operations as one group, all or none, and return its news."""
        if type(operations) is not tuple:
            raise InvalidOperation("not a tuple of operations")
        return self._perform(operations) if operations else ()

    def undo(self):
        """Undo the last operation or group that stands, and return the news."""
        if not self._done:
            raise InvalidOperation("nothing to undo")
        news = self._replace_holdings(self._done[-1][1])
        self._done.pop()
        return news

    def _perform(self, operations):
        before = self._holdings
        after = before
        for operation in operations:
            after = _performed(after, operation)
        news = self._replace_holdings(after)
        self._done.append((operations, before))
        return news

    def _replace_holdings(self, after):
        """Let the desk have what stands in these holdings, and return the news."""
        watched = self._holdings["watched"]
        same = [name for name in watched if after["watched"].get(name) == watched[name]]
        # All classes are known before anything changes: finding them may raise TooMany.
        old = {name: self._kinds(name) for name in same}
        new = {name: _kinds_in(after, name) for name in same}
        self._holdings = after
        self._known_kinds = new
        return tuple([change for name in same for change in _changes(name, old[name], new[name])])

    def _kinds(self, name):
        """Return a dict from each possible answer of a watched query to its class."""
        if name not in self._known_kinds:
            self._known_kinds[name] = _kinds_in(self._holdings, name)
        return self._known_kinds[name]

    def classes(self, name):
        """Return a dict from each possible answer of a watched query, ascending, to its class."""
        _check_watched(self._holdings, name)
        kinds = self._kinds(name)
        return {answer: kinds[answer] for answer in kinds}

    def decide(self, name, answer):
        """Return a decision for an answer of a watched query."""
        _check_watched(self._holdings, name)
        query = self._holdings["watched"][name]
        check_answer(self._holdings["schema"], query, answer)
        return find_decision(self.database(), query, answer)


def _claimed_by(holdings):
    """Return the database of the counting claims."""
    counting = find_counting(holdings["schema"], holdings["claims"], holdings["policy"])
    return gathered_rows(holdings["schema"], placed_records(counting))


def _database_of(holdings):
    return find_settled(_claimed_by(holdings), holdings["settlements"])


def _kinds_in(holdings, name):
    """Return a dict from each possible answer of a watched query to its class, for these holdings."""
    return answer_kinds(_database_of(holdings), holdings["watched"][name])


def _changes(name, old, new):
    """Return, ascending, the news of one query, of which the classes of the possible answers are given."""
    changes = []
    for answer in sorted({answer for kinds in (old, new) for answer in kinds}):
        before, after = [kinds.get(answer, "impossible") for kinds in (old, new)]
        if before != after:
            changes.append((name, answer, before, after))
    return changes


def _check_watched(holdings, name):
    # A name is asked for first, because what is no name may not be a key of a dict.
    if not is_name(name) or name not in holdings["watched"]:
        raise UnknownName(name)


def _performed(holdings, operation):
    """Return the holdings after an operation."""
    if not is_tuple(operation, 2, 2) or type(operation[0]) is not str or operation[0] not in ACTIONS:
        raise InvalidOperation("not a pair of an operation's word and its argument")
    word, argument = operation
    count = COUNTS.get(word)
    if count is not None and not is_tuple(argument, count, count):
        raise InvalidOperation("not as many values as the operation has")
    action = ACTIONS[word]
    return action(holdings, argument)


def _with_claim(holdings, claim):
    claims = holdings["claims"]
    _check_claim(holdings, claim)
    if claim in claims:
        raise InvalidOperation("the desk has the claim")
    more = tuple(sorted(claims + (claim,)))
    limit = exceeded_claims_limit(holdings["schema"], more)
    if limit is not None:
        raise TooMany(limit)
    return {**holdings, "claims": more}


def _without_claim(holdings, claim):
    claims = holdings["claims"]
    _check_claim(holdings, claim)
    if claim not in claims:
        raise InvalidOperation("the desk does not have the claim")
    return {**holdings, "claims": tuple([other for other in claims if other != claim])}


def _check_claim(holdings, claim):
    if not fits_claim(holdings["schema"], claim):
        raise InvalidClaims("not a claim for the schema")


def _with_settlement(holdings, settlement):
    settlements = holdings["settlements"]
    _check_settlement(holdings, settlement)
    if settlement in settlements:
        raise InvalidOperation("the desk has the settlement")
    if len(settlements) >= MAX_SETTLEMENTS:
        raise TooMany(MAX_SETTLEMENTS)
    return {**holdings, "settlements": tuple(sorted(settlements + (settlement,)))}


def _without_settlement(holdings, settlement):
    settlements = holdings["settlements"]
    _check_settlement(holdings, settlement)
    if settlement not in settlements:
        raise InvalidOperation("the desk does not have the settlement")
    return {**holdings, "settlements": tuple([other for other in settlements if other != settlement])}


def _check_settlement(holdings, settlement):
    if not fits_settlement(holdings["schema"], settlement):
        raise InvalidSettlement("not a settlement for the schema")


def _with_policy(holdings, policy):
    check_policy(policy)
    return {**holdings, "policy": policy}


def _with_watched(holdings, pair):
    name, query = pair
    watched = holdings["watched"]
    if not is_name(name) or name in watched:
        raise InvalidOperation("not a name under which nothing is watched")
    check_query(holdings["schema"], query)
    if len(watched) >= MAX_WATCHED:
        raise TooMany(MAX_WATCHED)
    more = {**watched, name: query}
    return {**holdings, "watched": {other: more[other] for other in sorted(more)}}


def _without_watched(holdings, name):
    _check_watched(holdings, name)
    watched = holdings["watched"]
    return {**holdings, "watched": {other: watched[other] for other in watched if other != name}}


ACTIONS = {"claim": _with_claim, "withdraw": _without_claim, "settle": _with_settlement,
           "release": _without_settlement, "policy": _with_policy, "watch": _with_watched,
           "unwatch": _without_watched}
# How many values the argument of an operation has; that of the others may be any value.
COUNTS = {"claim": 3, "withdraw": 3, "settle": 3, "release": 3, "watch": 2}
