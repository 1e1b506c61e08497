"""Policies once more, by their definitions, and drawn claims and policies."""

from tests import oracle

SOURCES = ('a', 'eve', 'sam', 'tom', 'zzzzzzzz')


def group_of(schema, claim):
    size = {table[0]: table[1] for table in schema}[claim[0]]
    return claim[0], claim[1][:size]


def counting(schema, claims, policy):
    """Return the claims that count, group by group."""
    if policy[0] == 'chain':
        for part in policy[1]:
            claims = counting(schema, claims, part)
        return tuple(claims)
    found = []
    for name in {group_of(schema, claim) for claim in claims}:
        own = [claim for claim in claims if group_of(schema, claim) == name]
        found += in_group(own, *policy)
    return tuple(sorted(found))


def in_group(claims, word, sources=()):
    listed = [claim for claim in claims if claim[2] in sources]
    if word == 'all' or word != 'votes' and not listed:
        return claims
    if word == 'ranks':
        best = next(source for source in sources if source in [claim[2] for claim in claims])
        return [claim for claim in claims if claim[2] == best]
    if word == 'trusted':
        return listed
    voters = {claim[1]: {other[2] for other in claims if other[1] == claim[1]} for claim in claims}
    most = max(len(some) for some in voters.values())
    return [claim for claim in claims if len(voters[claim[1]]) == most]


def drawn_claims(pick, schema, rows=None):
    """Return claims on the records of a drawn database; most records have several sources."""
    rows = oracle.random_database(pick, schema, 5)[1] if rows is None else rows
    return tuple(sorted((table[0], record, source) for table, records in zip(schema, rows) for record in records
                        for source in pick.sample(SOURCES, pick.choice((1, 1, 2, 2, 3, 5)))))


def drawn_policy(pick, levels=3):
    word = pick.choice(('all', 'ranks', 'trusted', 'votes') + ('chain',) * (2 if levels > 1 else 0))
    if word in ('all', 'votes'):
        return (word,)
    if word == 'chain':
        return word, tuple(drawn_policy(pick, levels - 1) for _ in range(pick.randint(2, 4)))
    sources = pick.sample(SOURCES + ('nobody', 'other'), pick.randint(1, 4))
    return word, tuple(sources if word == 'ranks' else sorted(sources))
