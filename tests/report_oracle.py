"""Reports once more, by their definitions, over all choices; and drawn reports."""

from tests import oracle


def kinds_of(schema, report):
    """Return the kinds of the steps of a report."""
    tables = {table[0]: table[2] for table in schema}
    found = []
    for step in report:
        if step[0] == 'query':
            terms = {term: kind for table, terms in step[1][1] for term, kind in zip(terms, tables[table])}
            found.append(tuple(terms[variable] for variable in step[1][0]))
        elif step[0] == 'columns':
            found.append(tuple(found[step[1]][column] for column in step[2]))
        else:
            found.append(found[step[1]])
    return found


def applied(step, sets):
    """Return the set of the tuples of a step that is no query, from the sets of the earlier steps."""
    word, first = step[0], sets[step[1]]
    if word == 'where':
        return {row for row in first if row[step[2]] == step[3]}
    if word == 'columns':
        return {tuple(row[column] for column in step[2]) for row in first}
    return {'union': first.union, 'both': first.intersection, 'minus': first.difference}[word](sets[step[2]])


def results(report, answers):
    """Return the sets of all steps; answers is a dict from each query to its answers."""
    sets = []
    for step in report:
        sets.append(set(answers[step[1]]) if step[0] == 'query' else applied(step, sets))
    return sets


def by_choice(database, report):
    """Return a dict from each choice to the sets of all steps."""
    held = {step[1]: oracle.answers_by_choice(step[1], database) for step in report if step[0] == 'query'}
    return {choice: results(report, {query: held[query][choice] for query in held})
            for choice in oracle.choices(database)}


def ascending(rows):
    return tuple(sorted(rows))


def exact(database, report):
    found = list(by_choice(database, report).values())
    return tuple((ascending(set.intersection(*steps)), ascending(set.union(*steps))) for steps in zip(*found))


def bounds(database, report):
    """Return the bounds of all steps, each computed as the document says."""
    lower, upper = [], []
    for step in report:
        if step[0] == 'query':
            held = list(oracle.answers_by_choice(step[1], database).values())
            lower.append(set.intersection(*map(set, held)))
            upper.append(set.union(*map(set, held)))
        elif step[0] == 'minus':
            both = (lower[step[1]] - upper[step[2]], upper[step[1]] - lower[step[2]])
            lower.append(both[0])
            upper.append(both[1])
        else:
            lower.append(applied(step, lower))
            upper.append(applied(step, upper))
    return tuple((ascending(one), ascending(other)) for one, other in zip(lower, upper))


def drawn_report(pick, schema, make_query, steps=8):
    """Return a report; some of its queries are the same one."""
    report = ()
    for _ in range(pick.randint(1, steps)):
        kinds = kinds_of(schema, report)
        word = pick.choice(('query', 'query', 'where', 'columns', 'union', 'both', 'minus', 'minus'))
        at = pick.randrange(len(report)) if report else 0
        if word == 'query' or not report:
            step = ('query', make_query())
        elif word == 'where' and kinds[at]:
            column = pick.randrange(len(kinds[at]))
            step = (word, at, column, pick.choice({'name': 'uvw', 'number': (0, 1, 2)}[kinds[at][column]]))
        elif word in ('where', 'columns'):
            columns = pick.sample(range(len(kinds[at])), pick.randint(0, len(kinds[at])))
            step = ('columns', at, tuple(columns))
        else:
            step = (word, at, pick.choice([other for other, own in enumerate(kinds) if own == kinds[at]]))
        report += (step,)
    return report
