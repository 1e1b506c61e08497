"""Replicas, which receive claims, settlements and what takes them back, in any order."""

from rightrecord.base.schemas import check_schema
from rightrecord.base.values import is_tuple
from rightrecord.desk.desk import Desk
from rightrecord.errors import InvalidClaims, InvalidMessage, InvalidSettlement, TooMany
from rightrecord.settle.settlements import MAX_SETTLEMENTS, fit_settlements, fits_settlement
from rightrecord.sources.claims import exceeded_claims_limit, fit_claims, fits_claim
from rightrecord.sources.policies import check_policy

NOTHING = ((), (), (), ())


class Replica:
    """A schema, a policy, and the four sets of what it has received, which are kept as one message.

    The sets are the claims made, the claims withdrawn, the settlements made and the settlements released.
    """

    def __init__(self, schema, *, policy=("all",)):
        check_schema(schema)
        check_policy(policy)
        self._schema = schema
        self._policy = policy
        self._sets = NOTHING

    def claims(self):
        """Return the standing claims, ascending."""
        return _left(self._sets[0], self._sets[1])

    def settlements(self):
        """Return the standing settlements, ascending."""
        return _left(self._sets[2], self._sets[3])

    def database(self):
        """Return the database of a desk that has what stands."""
        return self.desk().database()

    def desk(self):
        """Return a new desk that has what stands."""
        return Desk(self._schema, policy=self._policy, claims=self.claims(), settlements=self.settlements())

    def __len__(self):
        return len(self.claims())

    def __str__(self):
        return f"replica with {len(self.claims())} claims, {len(self.settlements())} settlements"

    def __eq__(self, other):
        return (isinstance(other, Replica) and self._schema == other._schema and self._policy == other._policy
                and self._sets == other._sets)

    def make_claim(self, table, record, source):
        """Receive a claim."""
        self._check_claim((table, record, source))
        self._add((((table, record, source),), (), (), ()))

    def withdraw_claim(self, table, record, source):
        """Receive the withdrawal of a claim."""
        self._check_claim((table, record, source))
        self._add(((), ((table, record, source),), (), ()))

    def make_settlement(self, table, key, records):
        """Receive a settlement."""
        self._check_settlement((table, key, records))
        self._add(((), (), ((table, key, records),), ()))

    def release_settlement(self, table, key, records):
        """Receive the release of a settlement."""
        self._check_settlement((table, key, records))
        self._add(((), (), (), ((table, key, records),)))

    def message(self):
        """Return the message with the sets of the replica."""
        return self._sets

    def receive(self, message):
        """Add the contents of a message to the sets."""
        self._check_message(message)
        self._add(message)

    def missing(self, message):
        """Return the message with what the replica has and the message does not have."""
        self._check_message(message)
        return tuple([_left(own, others) for own, others in zip(self._sets, message)])

    def _check_claim(self, claim):
        if not fits_claim(self._schema, claim):
            raise InvalidClaims("not a claim for the schema")

    def _check_settlement(self, settlement):
        if not fits_settlement(self._schema, settlement):
            raise InvalidSettlement("not a settlement for the schema")

    def _check_message(self, message):
        if not is_tuple(message, 4, 4):
            raise InvalidMessage("not a tuple of four sets")
        if not all([fit_claims(self._schema, claims) for claims in message[:2]]):
            raise InvalidMessage("not claims for the schema")
        if not all([fit_settlements(self._schema, settlements) for settlements in message[2:]]):
            raise InvalidMessage("not settlements for the schema")

    def _add(self, message):
        """Add what the four tuples have to the sets, or raise TooMany with the first limit that is exceeded."""
        sets = tuple([_joined(own, others) for own, others in zip(self._sets, message)])
        for claims in sets[:2]:
            limit = exceeded_claims_limit(self._schema, claims)
            if limit is not None:
                raise TooMany(limit)
        if max([len(settlements) for settlements in sets[2:]]) > MAX_SETTLEMENTS:
            raise TooMany(MAX_SETTLEMENTS)
        self._sets = sets


def _left(items, others):
    """Return the items that are not among the others."""
    return tuple([item for item in items if item not in others])


def _joined(items, others):
    """Return, ascending, all items of the two."""
    return tuple(sorted({item for some in (items, others) for item in some}))
