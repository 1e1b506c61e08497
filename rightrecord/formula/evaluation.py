"""The truth of formulas on a database."""

from rightrecord.base.values import is_variable, value_kind
from rightrecord.data.databases import check_database, rows_by_table
from rightrecord.errors import InvalidBinding
from rightrecord.formula.formulas import COMPARISONS, CONSTANTS, LISTS, check_formula, find_free, inner_formulas
from rightrecord.query.matching import fit_record


def evaluate(database, formula, binding):
    """Return whether the formula is true on the database under the binding."""
    check_database(database)
    check_formula(database[0], formula)
    _check_binding(formula, binding)
    return Evaluation(formula, rows_by_table(database)).is_true(binding)


def _check_binding(formula, binding):
    if type(binding) is not dict:
        raise InvalidBinding("not a dict")
    if not all([is_variable(item) and value_kind(binding[item]) is not None for item in binding]):
        raise InvalidBinding("not a dict from variables to values")
    if not all([variable in binding for variable in find_free(formula)]):
        raise InvalidBinding("a free variable has no value")


class Evaluation:
    """A formula on the rows of a database, under any number of bindings.

    What a quantifier is under the values of its free variables is worked out once: many bindings
    of the formula, and many records of the quantifiers around it, lead to the same values.
    """

    def __init__(self, formula, rows):
        self.rows = rows
        self.parts = []
        self.known = {}
        self._number(formula)

    def _number(self, formula):
        """Give a formula, and then those within it, the next numbers; return its own."""
        number = len(self.parts)
        self.parts.append(())
        inner = [self._number(part) for part in inner_formulas(formula)]
        self.parts[number] = (formula, inner, find_free(formula))
        return number

    def is_true(self, binding):
        """Return whether the formula is true under a valid binding."""
        return self._holds(0, {variable: binding[variable] for variable in self.parts[0][2]})

    def _holds(self, number, values):
        formula, inner, free = self.parts[number]
        word = formula[0]
        if word in CONSTANTS:
            return word == "true"
        if word in COMPARISONS:
            one, other = [values.get(term, term) for term in formula[1:]]
            return (one == other) == (word == "equal")
        if word == "not":
            return not self._holds(inner[0], values)
        if word in LISTS:
            return self._holds_as_list(word, inner, values)
        key = (number, tuple([values[variable] for variable in free]))
        if key not in self.known:
            self.known[key] = self._holds_as_quantifier(formula, inner[0], values)
        return self.known[key]

    def _holds_as_list(self, word, numbers, values):
        for number in numbers:
            if self._holds(number, values) == (word == "or"):
                return word == "or"
        return word == "and"

    def _holds_as_quantifier(self, formula, number, values):
        word, variables, table, terms = formula[:4]
        outer = {variable: values[variable] for variable in values if variable not in variables}
        for record in self.rows[table]:
            fitted = fit_record(terms, record, outer)
            if fitted is not None and self._holds(number, fitted) == (word == "exists"):
                return word == "exists"
        return word == "forall"
