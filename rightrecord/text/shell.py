"""A shell, which runs commands on a desk and returns texts."""

from rightrecord.attack.graphs import find_cycle
from rightrecord.base.values import is_name
from rightrecord.desk.desk import Desk
from rightrecord.errors import InvalidCommand, UnknownName
from rightrecord.measure.shares import answer_share
from rightrecord.settle.influence import influential_groups
from rightrecord.settle.least import least_cost
from rightrecord.text.formats import (find_values, format_fraction, format_list, format_placed, parse_policy,
                                      parse_query, parse_record, parse_schema, parse_settlement)

# What stands behind the first word of a command, in order.
FORMS = {"schema": ("schema",), "claim": ("name", "record"), "withdraw": ("name", "record"),
         "settle": ("settlement",), "release": ("settlement",), "policy": ("policy",), "watch": ("name", "query"),
         "unwatch": ("name",), "undo": (), "answers": ("name",), "class": ("name", "values"),
         "share": ("name", "values"), "cost": ("name", "values"), "matters": ("name", "values"),
         "compiled": ("name",), "disputed": (), "claims": (), "settlements": ()}
# What may consist of several words; it is the whole rest of its command.
RESTS = ("schema", "settlement", "policy", "query")
NOTHING = "none"


class Shell:
    """Has a desk, or none, and counts the commands that were run."""

    def __init__(self):
        self._desk = None
        self._count = 0

    def desk(self):
        """Return the desk itself, or None."""
        return self._desk

    def __len__(self):
        return len(range(self._count))

    def __str__(self):
        return f"shell with {self._count} commands"

    def __eq__(self, other):
        return isinstance(other, Shell) and self._desk == other._desk

    def run(self, command):
        """Run a command and return its result, a string."""
        self._count += 1
        word, texts = _split(command)
        if word == "schema":
            self._desk = Desk(parse_schema(texts[0]))
            return "ok"
        if self._desk is None:
            raise InvalidCommand("there is no desk")
        _check_words(word, texts)
        arguments = _parsed(self._desk.schema(), word, texts)
        action = ACTIONS[word]
        return action(self._desk, arguments)

    def run_all(self, commands):
        """Run the commands of a tuple in order and return the tuple of their results."""
        if type(commands) is not tuple:
            raise InvalidCommand("not a tuple of commands")
        return tuple([self.run(command) for command in commands])


def _split(command):
    """Return the pair of the first word of a command and the list of the texts behind it."""
    if type(command) is not str:
        raise InvalidCommand("not a string")
    words = command.split(" ")
    if "" in words or words[0] not in FORMS:
        raise InvalidCommand("not a command")
    form = FORMS[words[0]]
    texts = words[1:]
    if form and form[-1] in RESTS and len(texts) > len(form):
        texts = texts[:len(form) - 1] + [" ".join(texts[len(form) - 1:])]
    if len(texts) != len(form):
        raise InvalidCommand("not as many words as the command has")
    return (words[0], texts)


def _check_words(word, texts):
    """Raise InvalidCommand if a name or values are none."""
    for part, text in zip(FORMS[word], texts):
        if part == "name" and not is_name(text):
            raise InvalidCommand("not a name")
        if part == "values" and find_values(text) is None:
            raise InvalidCommand("not values")


def _parsed(schema, word, texts):
    """Return a list of what the texts of a command stand for, or raise ParseError."""
    return [_parsed_part(schema, part, text) for part, text in zip(FORMS[word], texts)]


def _parsed_part(schema, part, text):
    if part == "record":
        return parse_record(schema, text)
    if part == "settlement":
        return parse_settlement(schema, text)
    if part == "policy":
        return parse_policy(text)
    if part == "query":
        return parse_query(schema, text)
    return find_values(text) if part == "values" else text


def _text_of_news(news):
    changes = [f"{name} {format_list(answer)} {old}>{new}" for name, answer, old, new in news]
    return " ; ".join(changes) or NOTHING


def _text_of_groups(names):
    return " ".join([format_placed(table, key) for table, key in names]) or NOTHING


def _watched_query(desk, name):
    """Return the query that a desk watches under a name."""
    watched = desk.watched()
    if name not in watched:
        raise UnknownName(name)
    return watched[name]


def _claim(desk, arguments):
    source, (table, record) = arguments
    return _text_of_news(desk.claim(table, record, source))


def _withdraw(desk, arguments):
    source, (table, record) = arguments
    return _text_of_news(desk.withdraw(table, record, source))


def _settle(desk, arguments):
    table, key, records = arguments[0]
    return _text_of_news(desk.settle(table, key, records))


def _release(desk, arguments):
    table, key, records = arguments[0]
    return _text_of_news(desk.release(table, key, records))


def _policy(desk, arguments):
    return _text_of_news(desk.set_policy(arguments[0]))


def _watch(desk, arguments):
    name, query = arguments
    return _text_of_news(desk.watch(name, query))


def _unwatch(desk, arguments):
    return _text_of_news(desk.unwatch(arguments[0]))


def _undo(desk, _):
    return _text_of_news(desk.undo())


def _answers(desk, arguments):
    classes = desk.classes(arguments[0])
    return " ; ".join([f"{format_list(answer)} {classes[answer]}" for answer in classes]) or NOTHING


def _class(desk, arguments):
    name, answer = arguments
    return desk.decide(name, answer)[0]


def _share(desk, arguments):
    name, answer = arguments
    query = _watched_query(desk, name)
    return format_fraction(answer_share(desk.database(), query, answer))


def _cost(desk, arguments):
    name, answer = arguments
    query = _watched_query(desk, name)
    return str(least_cost(desk.database(), query, answer))


def _matters(desk, arguments):
    name, answer = arguments
    query = _watched_query(desk, name)
    return _text_of_groups(influential_groups(desk.database(), query, answer))


def _compiled(desk, arguments):
    query = _watched_query(desk, arguments[0])
    return "yes" if find_cycle(desk.schema(), query) is None else "no"


def _disputed(desk, _):
    return _text_of_groups(desk.disputed())


def _claims(desk, _):
    return str(len(desk.claims()))


def _settlements(desk, _):
    return str(len(desk.settlements()))


ACTIONS = {"claim": _claim, "withdraw": _withdraw, "settle": _settle, "release": _release, "policy": _policy,
           "watch": _watch, "unwatch": _unwatch, "undo": _undo, "answers": _answers, "class": _class,
           "share": _share, "cost": _cost, "matters": _matters, "compiled": _compiled, "disputed": _disputed,
           "claims": _claims, "settlements": _settlements}
