"""Runs of expressions in a model, step by step, and their mathematical values."""

from castforms.errors import InvalidValues
from castforms.expressions import check_admission, check_expression, check_variables
from castforms.expressions import kinds_by_name, kinds_of, rows_of
from castforms.models import bits_of, check_model, is_held, is_unsigned, wrapped


def check_values(variables, values):
    """Values check."""
    for name, _, low, high in variables:
        if name not in values or not low <= values[name] <= high:
            raise InvalidValues(name)


def exact(node, of_parts):
    """The mathematical value of a node that is no variable, from those of its parts."""
    word = node[0]
    if word == "lit":
        return node[1]
    if word == "cast":
        return of_parts[0]
    if word == "neg":
        return -of_parts[0]
    if word == "shl":
        return of_parts[0] << node[2]
    if word == "shr":
        return of_parts[0] >> node[2]
    if word == "not":
        return not of_parts[0]
    if word == "if":
        return of_parts[1] if of_parts[0] else of_parts[2]
    return _exact_pair(word, of_parts[0], of_parts[1])


def _exact_pair(word, first, second):
    if word == "add":
        return first + second
    if word == "sub":
        return first - second
    if word == "mul":
        return first * second
    if word == "less":
        return first < second
    if word == "most":
        return first <= second
    if word == "and":
        return first and second
    return first or second


class Run:
    """A run: the steps that it has gone through, and its fault.

    The value of a node is None behind a fault, and then nothing else runs.
    """

    def __init__(self, model, variables, expression, given):
        self.model = model
        self.rows = rows_of(expression)
        self.kinds = kinds_of(model, kinds_by_name(variables), self.rows)
        self.given = given
        self.taken = []
        self.fault = None

    def value_of(self, at):
        """Runs the node at a place in the rows; returns its value."""
        node, places = self.rows[at][1], self.rows[at][2]
        word = node[0]
        if word == "var":
            return self.given[node[1]]
        if word == "lit":
            return node[1]
        if word in ("if", "not", "and", "or"):
            return self.value_by_condition(at)
        of_parts = self.values_of_parts(places)
        if of_parts is None:
            return None
        if len(of_parts) == 2:
            of_parts = [self.converted(at, "first", of_parts[0]), self.converted(at, "second", of_parts[1])]
        if word in ("less", "most"):
            return exact(node, of_parts)
        return self.result(at, of_parts)

    def values_of_parts(self, places):
        found = []
        for place in places:
            value = self.value_of(place)
            if value is None:
                return None
            found.append(value)
        return found

    def value_by_condition(self, at):
        """The value of a node whose first part is a condition, on which depends what else runs."""
        word, places = self.rows[at][1][0], self.rows[at][2]
        truth = self.value_of(places[0])
        if truth is None:
            return None
        if word == "not":
            return not truth
        if word == "if":
            return self.chosen(at, truth)
        # What the first part decides alone: an `or` that is true, an `and` that is false.
        if truth == (word == "or"):
            return truth
        return self.value_of(places[1])

    def chosen(self, at, truth):
        value = self.value_of(self.rows[at][2][1 if truth else 2])
        if value is None:
            return None
        return self.converted(at, "first" if truth else "second", value)

    def converted(self, at, word, value):
        """Goes through the step that converts a part to the type of the node."""
        number = wrapped(self.model, self.kinds[at], value)
        self.taken.append((self.rows[at][0], word, number))
        return number

    def result(self, at, of_parts):
        path, node = self.rows[at][0], self.rows[at][1]
        number = None
        word = self.fault_word(node, self.kinds[at], of_parts)
        if word is None:
            number = wrapped(self.model, self.kinds[at], exact(node, of_parts))
        else:
            self.fault = ("fault", word, path)
        self.taken.append((path, "result", number))
        return number

    def fault_word(self, node, kind, of_parts):
        """The word of the fault of a result, None if it is none."""
        word = node[0]
        if word in ("shl", "shr") and node[2] >= bits_of(self.model, kind):
            return "shift"
        if word == "shl" and of_parts[0] < 0:
            return "shift"
        if word == "cast" or is_unsigned(self.model, kind):
            return None
        return None if is_held(self.model, kind, exact(node, of_parts)) else "overflow"


def _ended_run(model, variables, expression, values):
    """The tuple of a run behind its end, and its value."""
    check_model(model)
    check_variables(variables)
    check_expression(variables, expression)
    check_values(variables, values)
    check_admission(model, variables, expression)
    ended = Run(model, variables, expression, values)
    return (ended, ended.value_of(len(ended.rows) - 1))


def run(model, variables, expression, values):
    """The value of an expression or a condition, or its fault with the word and the path."""
    ended, value = _ended_run(model, variables, expression, values)
    if ended.fault is not None:
        return ended.fault
    return ("value", value)


def steps(model, variables, expression, values):
    """Yields (path, word, integer) for each step of a run; the step of a fault has None."""
    ended, _ = _ended_run(model, variables, expression, values)
    yield from ended.taken


def mathematical(variables, expression, values):
    """The value of an expression or a condition on all integers, without types."""
    check_variables(variables)
    check_expression(variables, expression)
    check_values(variables, values)
    found = []
    for _, node, places in rows_of(expression):
        if node[0] == "var":
            found.append(values[node[1]])
        else:
            found.append(exact(node, [found[at] for at in places]))
    return found[-1]
