"""The errors of the package."""


class RecordsError(ValueError):
    """An argument does not have the form that the document states."""


class InvalidSchema(RecordsError):
    """The value is not a schema."""


class InvalidRecord(RecordsError):
    """The value is not a record of the table or of the group."""


class InvalidDatabase(RecordsError):
    """The value is not a database."""


class InvalidChoice(RecordsError):
    """The value is not a choice of the database."""


class InvalidQuery(RecordsError):
    """The value is not a query for the schema."""


class InvalidAnswer(RecordsError):
    """The value is not an answer of the query."""


class InvalidFormula(RecordsError):
    """The value is not a formula for the schema."""


class InvalidBinding(RecordsError):
    """The value does not bind the free variables to values."""


class InvalidWeights(RecordsError):
    """The value is not weights of the database."""


class InvalidSettlement(RecordsError):
    """The value is not a settlement, or not settlements, for the schema."""


class InvalidPlan(RecordsError):
    """The value is not a plan for the answer."""


class InvalidClaims(RecordsError):
    """The value is not a claim, or not claims, for the schema."""


class InvalidPolicy(RecordsError):
    """The value is not a policy."""


class InvalidReport(RecordsError):
    """The value is not a report for the schema."""


class InvalidOperation(RecordsError):
    """The desk cannot perform the operation."""


class InvalidMessage(RecordsError):
    """The value is not a message for the schema."""


class ParseError(RecordsError):
    """The value is not the text of anything."""


class InvalidCommand(RecordsError):
    """The value is not a command of the shell."""


class UnknownName(KeyError):
    """Nothing has this name; `name` keeps it."""

    def __init__(self, name):
        self.name = name


class UnknownGroup(LookupError):
    """The database has no group with this name; `group` keeps it."""

    def __init__(self, group):
        self.group = group


class InvalidNumber(IndexError):
    """The value is not a number of the range; `value` keeps it."""

    def __init__(self, value):
        self.value = value


class TooMany(OverflowError):
    """There is more than allowed; `limit` keeps how much is allowed."""

    def __init__(self, limit):
        self.limit = limit


class CyclicQuery(RuntimeError):
    """The atoms of the query attack one another; `cycle` keeps a cycle of them."""

    def __init__(self, cycle):
        self.cycle = cycle
