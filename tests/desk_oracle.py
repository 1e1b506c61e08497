"""An own book of what a desk has, and of what its operations do, by the definitions; and drawn operations."""

from rightrecord import errors
from tests import oracle
from tests.claim_oracle import counting, drawn_policy

PARTS = ('policy', 'claims', 'settlements', 'watched')


def is_strict(value, form):
    """Return whether a value looks exactly like a form, True and lists told from 1 and tuples."""
    return repr(value) == repr(form)


class Book:
    """What a desk has, as sets and dicts, and the states before each call that stands."""

    def __init__(self, schema, policy=('all',)):
        self.schema = schema
        self.has = {'policy': policy, 'claims': set(), 'settlements': set(), 'watched': {}}
        self.calls = []

    def claimed(self, has):
        """Return a dict from each group to the records of the counting claims."""
        sizes = {table[0]: table[1] for table in self.schema}
        groups = {}
        for table, record, _ in counting(self.schema, tuple(sorted(has['claims'])), has['policy']):
            groups.setdefault((table, record[:sizes[table]]), set()).add(record)
        return groups

    def admitted(self, has, name):
        """Return the records that all settlements of a group leave, perhaps none."""
        left = self.claimed(has)[name]
        for table, key, records in has['settlements']:
            if (table, key) == name:
                left = left & set(records)
        return left

    def database(self, has=None):
        has = has or self.has
        rows = {table[0]: [] for table in self.schema}
        for name, records in self.claimed(has).items():
            rows[name[0]] += self.admitted(has, name) or records
        return self.schema, tuple(tuple(sorted(rows[table[0]])) for table in self.schema)

    def disputed(self):
        return tuple(sorted(name for name in self.claimed(self.has) if not self.admitted(self.has, name)))

    def classes(self, query, has=None):
        """Return a dict from each possible answer to its class, by all choices."""
        held = list(oracle.answers_by_choice(query, self.database(has)).values())
        return {answer: 'certain' if all(answer in some for some in held) else 'open'
                for answer in sorted({answer for some in held for answer in some})}

    def news(self, before, after):
        found = []
        for name, query in sorted(before['watched'].items()):
            if after['watched'].get(name) == query:
                old, new = self.classes(query, before), self.classes(query, after)
                for answer in sorted(set(old) | set(new)):
                    pair = (old.get(answer, 'impossible'), new.get(answer, 'impossible'))
                    if pair[0] != pair[1]:
                        found.append((name, answer) + pair)
        return tuple(found)

    def perform(self, operations):
        """Perform operations as one call; return the news, or the first error."""
        before = after = self.has
        for operation in operations:
            after = self.after(after, operation)
            if isinstance(after, Exception):
                return after
        self.calls.append((operations, before))
        self.has = after
        return self.news(before, after)

    def undo(self):
        if not self.calls:
            return errors.InvalidOperation('')
        before = self.has
        self.has = self.calls.pop()[1]
        return self.news(before, self.has)

    def log(self):
        return tuple(operation for operations, _ in self.calls for operation in operations)

    def after(self, has, operation):
        """Return what the desk has after an operation whose argument is valid, or the error."""
        word, argument = operation
        part = {'claim': 'claims', 'withdraw': 'claims', 'settle': 'settlements', 'release': 'settlements'}.get(word)
        if word in ('claim', 'settle'):
            if argument in has[part]:
                return errors.InvalidOperation('')
            new = {**has, part: has[part] | {argument}}
            return self.exceeded(new, part) or new
        if word in ('withdraw', 'release'):
            if argument not in has[part]:
                return errors.InvalidOperation('')
            return {**has, part: has[part] - {argument}}
        if word == 'policy':
            return {**has, 'policy': argument}
        if word == 'watch':
            name, query = argument
            if name in has['watched']:
                return errors.InvalidOperation('')
            if len(has['watched']) == 6:
                return errors.TooMany(6)
            return {**has, 'watched': {**has['watched'], name: query}}
        if argument not in has['watched']:
            return errors.UnknownName(argument)
        return {**has, 'watched': {name: query for name, query in has['watched'].items() if name != argument}}

    def exceeded(self, has, part):
        if part == 'settlements':
            return errors.TooMany(60) if len(has[part]) > 60 else None
        records = {claim[:2] for claim in has[part]}
        sizes = {table[0]: table[1] for table in self.schema}
        names = [(table, record[:sizes[table]]) for table, record in records]
        if len(has[part]) > 200:
            return errors.TooMany(200)
        if len(records) > 40:
            return errors.TooMany(40)
        return errors.TooMany(6) if names and max(map(names.count, names)) > 6 else None


class Drawer:
    """Draws operations on few claims, settlements and queries, so that many of them meet."""

    def __init__(self, pick):
        self.pick = pick
        self.schema = oracle.random_schema(pick, tables=2, columns=3)
        self.queries = [oracle.random_query(pick, self.schema, head=2) for _ in range(4)]
        self.records = []
        for name, size, kinds in self.schema:
            for _ in range(5):
                # Keys are few, so that records stand in the same groups.
                self.records.append((name, tuple(pick.choice(
                    {'name': 'vvu' if at < size else 'uvw', 'number': (1, 1, 0) if at < size else (0, 1, 2)}[kind])
                    for at, kind in enumerate(kinds))))

    def claim(self):
        return self.pick.choice(self.records) + (self.pick.choice(('a', 'eve', 'tom')),)

    def settlement(self):
        table, record = self.pick.choice(self.records)
        size = {entry[0]: entry[1] for entry in self.schema}[table]
        own = [other for name, other in self.records if name == table and other[:size] == record[:size]]
        return table, record[:size], tuple(sorted(set(self.pick.sample(own, self.pick.randint(1, min(3, len(own)))))))

    def start(self):
        """Return operations that a history may begin with: some claims, and two watched queries."""
        claims = {self.claim() for _ in range(6)}
        return tuple(('claim', claim) for claim in sorted(claims)) + tuple(
            ('watch', (name, query)) for name, query in zip(('home', 'town'), self.queries))

    def operation(self, book):
        """Return an operation; removals take what is there more often than not."""
        pick = self.pick
        word = pick.choice(('claim', 'claim', 'claim', 'withdraw', 'settle', 'settle', 'release', 'policy', 'watch',
                            'watch', 'unwatch'))
        if word == 'claim' and len(book.has['claims']) > 8:
            word = 'withdraw'
        part = {'withdraw': 'claims', 'release': 'settlements', 'unwatch': 'watched'}.get(word)
        there = sorted(book.has[part]) if part else ()
        if there and pick.random() < 0.8:
            return word, pick.choice(there)
        if word in ('claim', 'withdraw'):
            return word, self.claim()
        if word in ('settle', 'release'):
            return word, self.settlement()
        if word == 'policy':
            return word, drawn_policy(pick)
        name = pick.choice(('home', 'town', 'x', 'abcdefgh', 'a', 'b', 'c', 'd'))
        return (word, name) if word == 'unwatch' else (word, (name, pick.choice(self.queries)))


def is_small(book):
    """Return whether the choices of the database are few enough to go through all of them."""
    many = 1
    for _, records in oracle.groups(book.database()):
        many *= len(records)
    return many <= 80
