"""The text forms once more, by regular expressions: what a text stands for, or None."""

import re

from rightrecord.base.schemas import is_record, is_schema
from rightrecord.query.queries import is_query
from rightrecord.settle.settlements import is_settlement
from rightrecord.sources.policies import is_policy

NAME = '[a-z]{1,8}'
VALUE = f'(?:{NAME}|0|-?[1-9][0-9]{{0,9}})'
TERM = f'(?:{VALUE}|[A-Z]{{1,4}})'
RECORD = re.compile(rf'({NAME})\(({VALUE}(?:,{VALUE})*)\)')
ATOM = re.compile(rf'({NAME})\(({TERM}(?:,{TERM})*)\)')
TABLE = re.compile(rf'({NAME})/([0-4])\(((?:name|number)(?:,(?:name|number))*)\)')
VALUES = re.compile(rf'-|{VALUE}(?:,{VALUE})*')
HEAD = re.compile(r'-|[A-Z]{1,4}(?:,[A-Z]{1,4})*')
SIMPLE = re.compile(rf'all|votes|(?:ranks|trusted) {NAME}(?:,{NAME})*')


def term(text):
    return text if text.isalpha() else int(text)


def terms(text):
    return () if text == '-' else tuple(map(term, text.split(',')))


def values(text):
    """Return the values of a text; their sizes are not asked for here."""
    if not VALUES.fullmatch(text):
        return None
    found = terms(text)
    return found if all(isinstance(value, str) or abs(value) <= 10 ** 9 for value in found) else None


def placed(pattern, text):
    match = pattern.fullmatch(text)
    return match and (match[1], terms(match[2]))


def record(schema, text):
    found = placed(RECORD, text)
    return found if found and found[0] in dict_of(schema) and is_record(schema, *found) else None


def dict_of(schema):
    return {table[0]: table for table in schema}


def schema_in(text):
    matches = [TABLE.fullmatch(word) for word in text.split(' ')]
    if None in matches:
        return None
    found = tuple((match[1], int(match[2]), tuple(match[3].split(','))) for match in matches)
    return found if is_schema(found) else None


def query(schema, text):
    head, arrow, rest = text.partition(' <- ')
    atoms = [placed(ATOM, word) for word in rest.split(' ')]
    if not arrow or not HEAD.fullmatch(head) or None in atoms:
        return None
    found = (terms(head), tuple(atoms))
    return found if is_query(schema, found) else None


def settlement(schema, text):
    records = [placed(RECORD, part) for part in text.split(' | ')]
    if None in records or len({table for table, _ in records}) != 1 or records[0][0] not in dict_of(schema):
        return None
    table = records[0][0]
    size = dict_of(schema)[table][1]
    found = (table, records[0][1][:size], tuple(own for _, own in records))
    return found if is_settlement(schema, found) else None


def policy(text, levels=3):
    if SIMPLE.fullmatch(text):
        word, _, sources = text.partition(' ')
        found = (word, tuple(sources.split(','))) if sources else (word,)
        return found if is_policy(found) else None
    if not (text.startswith('chain ( ') and text.endswith(' )')) or levels == 1:
        return None
    parts, depth, start = [], 0, 0
    inner = text[len('chain ( '):-len(' )')]
    # A separator counts where as many brackets were opened as closed before it.
    for at in range(len(inner)):
        depth += {'(': 1, ')': -1}.get(inner[at], 0)
        if depth == 0 and inner[at:at + 3] == ' ; ':
            parts.append(inner[start:at])
            start = at + 3
    found = ('chain', tuple(policy(part, levels - 1) for part in parts + [inner[start:]]))
    return found if None not in found[1] and is_policy(found) else None


def edits(text, letters='aZ019-+,();|/ <.\n_'):
    """Yield texts that differ from this one in one or two places."""
    for at in range(len(text) + 1):
        for letter in letters:
            yield text[:at] + letter + text[at:]
            yield text[:at] + letter + text[at + 1:]
        yield text[:at] + text[at + 1:]
        yield text[:at] + text[at:at + 1] * 2 + text[at + 1:]
        yield text[:at] + text[at + 1:at + 2] + text[at:at + 1] + text[at + 2:]
        yield text[:at]
        yield text[at:]
    yield text.upper()
    yield text.lower()
    yield text + ' ' + text
    yield text + text
