"""Text forms of schemas, records, queries, settlements and policies, and what texts of these forms mean.

A text is parsed loosely, into what may be no valid value. It is accepted if the value is valid and
its text form is the text itself.
"""

from rightrecord.base.schemas import check_record, check_schema, check_table, find_table, is_schema
from rightrecord.base.values import has_kinds, is_name, is_variable, value_kind
from rightrecord.errors import InvalidSettlement, ParseError
from rightrecord.query.queries import check_query, is_query
from rightrecord.settle.settlements import fits_settlement
from rightrecord.sources.policies import MAX_NESTED, check_policy, is_policy

MAX_DIGITS = 10
DIGITS = "0123456789"


def format_list(items):
    """Return the text of values, variables, terms, kinds or sources."""
    return ",".join([str(item) for item in items]) or "-"


def format_placed(table, items):
    """Return the text of a record or an atom of a table, or of the name of a group."""
    return f"{table}({format_list(items)})"


def format_fraction(fraction):
    """Return the text of a fraction."""
    return f"{fraction[0]}/{fraction[1]}"


def format_schema(schema):
    """Return the text form of a schema."""
    check_schema(schema)
    return " ".join([format_placed(f"{name}/{size}", kinds) for name, size, kinds in schema])


def format_record(schema, table, record):
    """Return the text form of a record with its table."""
    check_schema(schema)
    check_table(schema, table)
    check_record(schema, table, record)
    return format_placed(table, record)


def format_query(schema, query):
    """Return the text form of a query."""
    check_schema(schema)
    check_query(schema, query)
    head, atoms = query
    return " ".join([format_list(head), "<-"] + [format_placed(table, terms) for table, terms in atoms])


def format_settlement(schema, settlement):
    """Return the text form of a settlement."""
    check_schema(schema)
    if not fits_settlement(schema, settlement):
        raise InvalidSettlement("not a settlement for the schema")
    table, _, records = settlement
    return " | ".join([format_placed(table, record) for record in records])


def format_policy(policy):
    """Return the text form of a policy."""
    check_policy(policy)
    return _policy_text(policy)


def _policy_text(policy):
    if len(policy) == 1:
        return policy[0]
    word, parts = policy
    if word == "chain":
        inner = " ; ".join([_policy_text(part) for part in parts])
        return f"chain ( {inner} )"
    return f"{word} {format_list(parts)}"


def parse_schema(text):
    """Return the schema of a text."""
    _check_text(text)
    schema = tuple([_table_in(word) for word in text.split(" ")])
    if not is_schema(schema) or format_schema(schema) != text:
        raise ParseError("not the text of a schema")
    return schema


def parse_record(schema, text):
    """Return the pair of the table and the record of a text."""
    check_schema(schema)
    _check_text(text)
    table, record = _placed_in(text)
    entry = find_table(schema, table)
    if entry is None or not has_kinds(record, entry[2]) or format_placed(table, record) != text:
        raise ParseError("not the text of a record")
    return (table, record)


def parse_query(schema, text):
    """Return the query of a text."""
    check_schema(schema)
    _check_text(text)
    words = text.split(" ")
    query = (_terms_in(words[0]), tuple([_placed_in(word) for word in words[2:]]))
    if not is_query(schema, query) or format_query(schema, query) != text:
        raise ParseError("not the text of a query")
    return query


def parse_settlement(schema, text):
    """Return the settlement of a text."""
    check_schema(schema)
    _check_text(text)
    placed = [_placed_in(part) for part in text.split(" | ")]
    table, first = placed[0]
    entry = find_table(schema, table)
    if entry is not None:
        settlement = (table, first[:entry[1]], tuple([record for _, record in placed]))
        if fits_settlement(schema, settlement) and format_settlement(schema, settlement) == text:
            return settlement
    raise ParseError("not the text of a settlement")


def parse_policy(text):
    """Return the policy of a text."""
    _check_text(text)
    policy, _ = _policy_at(text.split(" "), 0, MAX_NESTED)
    if not is_policy(policy) or format_policy(policy) != text:
        raise ParseError("not the text of a policy")
    return policy


def find_values(text):
    """Return the values of a text, or None if it is not the text of values."""
    values = _terms_in(text)
    is_valid = all([value_kind(value) is not None for value in values]) and format_list(values) == text
    return values if is_valid else None


def _check_text(text):
    if type(text) is not str:
        raise ParseError("not a string")


def _words_in(text):
    return () if text == "-" else tuple(text.split(","))


def _terms_in(text):
    """Return what the text of terms stands for, with None in the place of what is no term."""
    return tuple([_term_in(word) for word in _words_in(text)])


def _term_in(text):
    if is_name(text) or is_variable(text):
        return text
    digits = text[1:] if text.startswith("-") else text
    if not 1 <= len(digits) <= MAX_DIGITS or not all([digit in DIGITS for digit in digits]):
        return None
    return int(text)


def _placed_in(text):
    """Return the pair of a table and terms that a text like job(P,T) stands for."""
    table, _, rest = text.partition("(")
    return (table, _terms_in(rest[:-1]))


def _table_in(text):
    """Return the table that a text like job/1(name,name) stands for."""
    name, _, rest = text.partition("/")
    size, _, kinds = rest.partition("(")
    return (name, _term_in(size), _words_in(kinds[:-1]))


def _policy_at(words, at, levels):
    """Return the pair of the policy that begins at a word, or None, and the place behind it."""
    word = words[at] if at < len(words) else ""
    if word == "chain":
        return _chain_at(words, at + 1, levels - 1) if levels > 0 else (None, at)
    if word in ("ranks", "trusted") and at + 1 < len(words):
        return ((word, _words_in(words[at + 1])), at + 2)
    return ((word,), at + 1)


def _chain_at(words, at, levels):
    """Return the pair of the chain whose bracket stands at a place, and the place behind it."""
    parts = []
    separator = "("
    while at < len(words) and words[at] == separator:
        part, at = _policy_at(words, at + 1, levels)
        parts.append(part)
        separator = ";"
    return (("chain", tuple(parts)), at + 1)
