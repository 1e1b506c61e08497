"""Claims, each made by a source on one record."""

from rightrecord.base.schemas import check_record, check_schema, check_table, find_table
from rightrecord.base.values import has_kinds, is_ascending, is_name, is_tuple
from rightrecord.data.databases import exceeded_limit, gathered_rows
from rightrecord.errors import InvalidClaims

MAX_CLAIMS = 200


def is_claim(schema, value):
    """Return whether the value is a claim for the schema."""
    check_schema(schema)
    return fits_claim(schema, value)


def fits_claim(schema, value):
    """Return whether the value is a claim for the valid schema."""
    if not is_tuple(value, 3, 3):
        return False
    table, record, source = value
    entry = find_table(schema, table)
    return entry is not None and has_kinds(record, entry[2]) and is_name(source)


def are_claims(schema, value):
    """Return whether the value is claims for the schema."""
    check_schema(schema)
    return fit_claims(schema, value)


def fit_claims(schema, value):
    """Return whether the value is claims for the valid schema."""
    if type(value) is not tuple or not all([fits_claim(schema, item) for item in value]):
        return False
    return is_ascending(value) and exceeded_claims_limit(schema, value) is None


def exceeded_claims_limit(schema, claims):
    """Return the first limit that these many claims, all of them valid, or their records exceed, or None."""
    if len(claims) > MAX_CLAIMS:
        return MAX_CLAIMS
    return exceeded_limit(gathered_rows(schema, placed_records(claims)))


def placed_records(claims):
    """Return the pairs of the table and the record of each claim."""
    return [(table, record) for table, record, _ in claims]


def check_claims(schema, claims):
    """Raise InvalidClaims if they are not claims for the valid schema."""
    if not fit_claims(schema, claims):
        raise InvalidClaims("not claims for the schema")


def sources_of(schema, claims, table, record):
    """Return the sources that claim the record, ascending."""
    check_schema(schema)
    check_claims(schema, claims)
    check_table(schema, table)
    check_record(schema, table, record)
    # Claims ascend, and those of one record differ in nothing but the source.
    return tuple([claim[2] for claim in claims if claim[:2] == (table, record)])
