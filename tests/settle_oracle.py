"""Contrasts, plans and guards once more, by their definitions, over all choices of a database."""

import itertools
import random

from tests import oracle


class Answer:
    """One answer: in which choices it holds; choices are tuples of records, one for each group."""

    def __init__(self, database, query, answer):
        self.groups = oracle.groups(database)
        self.names = [name for name, _ in self.groups]
        self.conflicting = {name: records for name, records in self.groups if len(records) > 1}
        held = oracle.answers_by_choice(query, database)
        self.holds = {choice: answer in held[choice] for choice in held}
        self.costs = {}

    def choices_at(self, position):
        """Return the choices that take the records of a position, a tuple of triples."""
        taken = {(table, key): record for table, key, record in position}
        return [choice for choice in self.holds
                if all(taken.get(name, record) == record for name, record in zip(self.names, choice))]

    def kind(self, position=()):
        held = {self.holds[choice] for choice in self.choices_at(position)}
        return 'open' if len(held) == 2 else 'certain' if True in held else 'impossible'

    def contrasts(self, name, position=()):
        """Return all pairs of choices at a position that differ in one group, and in whether the answer holds."""
        at = self.names.index(name)
        sides = {}
        for choice in self.choices_at(position):
            sides.setdefault(choice[:at] + choice[at + 1:], {True: [], False: []})[self.holds[choice]].append(choice)
        return [pair for side in sides.values() for pair in itertools.product(side[True], side[False])]

    def influential(self, position=()):
        return tuple(name for name in self.names if self.contrasts(name, position))

    def least(self, position=()):
        """Return the least cost of a plan from a position on, whatever conflicting groups it asks."""
        if position not in self.costs:
            asked = [triple[:2] for triple in position]
            costs = [0] if self.kind(position) != 'open' else [
                1 + max(self.least(after(position, name, record)) for record in records)
                for name, records in self.conflicting.items() if name not in asked]
            self.costs[position] = min(costs)
        return self.costs[position]

    def positions(self):
        """Return all positions of the database, ascending."""
        found = [()]
        for name, records in self.conflicting.items():
            found += [after(position, name, record) for position in found for record in records]
        return sorted(found)

    def has_form(self, plan, asked=()):
        if repr(plan) == repr(('stop',)):
            return True
        if type(plan) is not tuple or len(plan) != 4 or repr(plan[0]) != repr('ask'):
            return False
        _, table, key, branches = plan
        names = [name for name in self.conflicting if repr(name) == repr((table, key)) and name not in asked]
        if not names or type(branches) is not tuple:
            return False
        if not all(type(branch) is tuple and len(branch) == 2 for branch in branches):
            return False
        if repr([branch[0] for branch in branches]) != repr(list(self.conflicting[names[0]])):
            return False
        return all(self.has_form(part, asked + (names[0],)) for _, part in branches)

    def stops(self, plan, position=()):
        """Return the positions of all stops of what has the form of a plan."""
        if plan[0] == 'stop':
            return [position]
        return [stop for record, part in plan[3] for stop in self.stops(part, after(position, plan[1:3], record))]

    def is_plan(self, plan):
        return self.has_form(plan) and all(self.kind(stop) != 'open' for stop in self.stops(plan))

    def is_guard(self, cost, value):
        """Return whether a tuple of positions, in any order, is a guard."""
        if cost == 0:
            return value == ()
        if list(value) != sorted(set(value)) or () not in value or any(len(position) >= cost for position in value):
            return False
        if any(self.kind(position) != 'open' for position in value):
            return False
        return all(any(after(position, name, record) in value for record in self.conflicting[name])
                   for position in value if len(position) < cost - 1 for name in self.influential(position))


def after(position, name, record):
    return tuple(sorted(position + (name + (record,),)))


def cost(plan):
    return 0 if plan[0] == 'stop' else 1 + max(cost(part) for _, part in plan[3])


def ask(database, name, parts):
    """Return the plan that asks a group, with a plan for each of its records."""
    return ('ask',) + name + (tuple(zip(dict(oracle.groups(database))[name], parts)),)


def drawn_plan(pick, answer, position=(), stops=0.3):
    """Return what has the form of a plan; it stops everywhere it must, and now and then where it should not."""
    asked = [triple[:2] for triple in position]
    free = [name for name in answer.conflicting if name not in asked]
    if not free or pick.random() < (stops if answer.kind(position) != 'open' else stops / 10):
        return ('stop',)
    name = pick.choice(free)
    return ('ask',) + name + (tuple((record, drawn_plan(pick, answer, after(position, name, record), stops))
                                    for record in answer.conflicting[name]),)


def dense_input(pick):
    """Return a schema, a query and a database of two or three small tables with many conflicts."""
    kinds = pick.choice((('name', 'name'), ('name', 'number')))
    schema = tuple((name, pick.choice((0, 1, 1, 1, 2)), kinds) for name in 'abc'[:pick.randint(2, 3)])
    spare = {'name': ('A', 'A', 'B', 'C', 'v'), 'number': ('X', 'X', 'Y', 1)}
    atoms = tuple((name, tuple(pick.choice(spare[kind]) for kind in kinds)) for name, _, kinds in schema)
    free = sorted(oracle.variables(((), atoms)))
    query = (tuple(pick.sample(free, pick.choice((0, 0, min(1, len(free)))))), atoms)
    values = {'name': ('u', 'v', 'w')[:pick.randint(2, 3)], 'number': (0, 1, 2)[:pick.randint(2, 3)]}
    rows = []
    for _ in schema:
        many = list(itertools.product(*[values[kind] for kind in kinds]))
        rows.append(tuple(sorted(pick.sample(many, pick.randint(2, min(6, len(many)))))))
    return schema, query, (schema, tuple(rows))


def inputs(seed, count, positions):
    """Return quadruples of a schema, a query, a database and an answer, with so few positions at most.

    Of each query there are three possible answers at most, and one that is impossible.
    """
    pick = random.Random(seed)
    drawn = oracle.random_inputs(seed, count // 2) + oracle.cyclic_inputs(seed + 1, count // 2)
    drawn += [dense_input(pick) for _ in range(count)]
    found = []
    for schema, query, database in drawn:
        many = 1
        for _, records in oracle.groups(database):
            many *= 1 if len(records) == 1 else 1 + len(records)
        if many <= positions and max([len(records) for _, records in oracle.groups(database)], default=0) <= 6:
            possible = oracle.answers(oracle.matches(query, oracle.all_rows(database)))
            others = [answer for answer in oracle.domains(schema, query) if answer not in possible]
            found += [(schema, query, database, answer) for answer in list(possible[:3]) + others[:1]]
    return found
