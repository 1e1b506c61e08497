"""Shares: how much of all choices, by the weights of their records, an answer holds in."""

from math import gcd

from rightrecord.base.values import is_tuple
from rightrecord.certain.components import (Selections, check_selections, conflict_parts, find_components,
                                            parts_within)
from rightrecord.data.choices import check_choice
from rightrecord.data.databases import check_database, conflict_owners, database_groups, rows_by_table
from rightrecord.errors import InvalidWeights
from rightrecord.query.matching import find_witnesses, witnesses_by_answer
from rightrecord.query.queries import check_answer, check_query

MAX_WEIGHT = 1000000


def is_weights(database, value):
    """Return whether the value is weights of the database."""
    check_database(database)
    return _are_weights(database, value)


def _are_weights(database, value):
    rows = database[1]
    if not is_tuple(value, len(rows), len(rows)):
        return False
    if not all([is_tuple(entry, len(records), len(records)) for entry, records in zip(value, rows)]):
        return False
    return all([type(weight) is int and 1 <= weight <= MAX_WEIGHT for entry in value for weight in entry])


def _check_weights(database, weights):
    if weights is not None and not _are_weights(database, weights):
        raise InvalidWeights("not weights of the database")


def choice_share(database, choice, *, weights=None):
    """Return the share of a choice."""
    check_database(database)
    check_choice(database, choice)
    _check_weights(database, weights)
    scale = Scale(database, weights)
    numerator = 1
    for name, record in zip(scale.groups, choice):
        numerator = numerator * scale.weights[name[0], record]
    return _reduced(numerator, scale.total(scale.groups))


def answer_share(database, query, answer, *, weights=None):
    """Return the share of an answer."""
    check_database(database)
    check_query(database[0], query)
    check_answer(database[0], query, answer)
    _check_weights(database, weights)
    found = find_witnesses(query, answer, rows_by_table(database))
    return Scale(database, weights).share(query, found)


def answer_shares(database, query, *, weights=None):
    """Return a dict from each possible answer to its share."""
    check_database(database)
    check_query(database[0], query)
    _check_weights(database, weights)
    found = witnesses_by_answer(query, rows_by_table(database))
    scale = Scale(database, weights)
    return {answer: scale.share(query, found[answer]) for answer in found}


def expected_answers(database, query, *, weights=None):
    """Return the sum of the shares of all possible answers."""
    shares = answer_shares(database, query, weights=weights)
    total = (0, 1)
    for share in shares.values():
        total = _reduced(total[0] * share[1] + share[0] * total[1], total[1] * share[1])
    return total


def _reduced(numerator, denominator):
    """Return the fraction in lowest terms."""
    factor = gcd(numerator, denominator)
    return (numerator // factor, denominator // factor)


class Scale:
    """The weights of the records of a database."""

    def __init__(self, database, weights):
        self.groups = database_groups(database)
        self.owners = conflict_owners(self.groups)
        self.weights = {}
        for at, entry in enumerate(database[0]):
            for place, record in enumerate(database[1][at]):
                self.weights[entry[0], record] = 1 if weights is None else weights[at][place]

    def total(self, names):
        """Return the product of the sums of the weights of the named groups."""
        total = 1
        for name in names:
            total = total * sum(self._weights_of(name))
        return total

    def _weights_of(self, name):
        return [self.weights[name[0], record] for record in self.groups[name]]

    def share(self, query, found):
        """Return the share of an answer with these witnesses."""
        parts = conflict_parts(query, self.owners, found)
        sets = find_components(parts)
        check_selections(self.groups, sets)
        if () in parts:
            return (1, 1)
        numerator = denominator = 1
        for names in sets:
            numerator = numerator * self._failing(names, parts_within(parts, names))
            denominator = denominator * self.total(names)
        # The answer fails if it fails in each of its components, and these do not depend on each other.
        return _reduced(denominator - numerator, denominator)

    def _failing(self, names, parts):
        """Return the sum, over the selections under which none of the parts holds, of the products of their weights."""
        products = [1]
        for name in names:
            weights = self._weights_of(name)
            products = [product * weight for product in products for weight in weights]
        holding = Selections(self.groups, names).holding(parts)
        return sum([product for number, product in enumerate(products) if (holding >> number) & 1 == 0])
