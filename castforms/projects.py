"""Projects: expressions over the same variables, which are added and removed; both can be taken back."""

from castforms.clean import Demands
from castforms.errors import InvalidNumber, NothingToUndo
from castforms.expressions import check_expression, check_variables, refusal
from castforms.models import check_model, check_widths
from castforms.portable import counter_model
from castforms.readings import read_expression, read_variables


class Project:
    """Expressions over the same variables. Two projects are equal if both are, whatever can be undone."""

    def __init__(self, variables):
        check_variables(variables)
        self._variables = list(variables)
        # No list of expressions is changed: a call that changes the project makes a new one.
        self._current = []
        self._earlier = []

    def __eq__(self, other):
        if not isinstance(other, Project):
            return False
        return self._variables == other._variables and self._current == other._current

    @property
    def expressions(self):
        """The list of the expressions."""
        return list(self._current)

    def _change_to(self, changed):
        self._earlier.append(self._current)
        self._current = changed

    def add(self, *expressions):
        """Adds expressions behind the others, all of them or, if one is wrong, none."""
        for expression in expressions:
            check_expression(self._variables, expression)
        self._change_to(self._current + list(expressions))

    def remove(self, index):
        """Removes the expression with an index, and returns it."""
        if not 0 <= index < len(self._current):
            raise InvalidNumber(index)
        gone = self._current[index]
        self._change_to(self._current[:index] + self._current[index + 1:])
        return gone

    def undo(self):
        """Takes back the last call of add or remove that was successful."""
        if not self._earlier:
            raise NothingToUndo(0)
        self._current = self._earlier.pop()

    def verdicts(self, model):
        """Yields, for each expression, whether it is clean, or the reason why the model does not admit it."""
        check_model(model)
        for expression in self._current:
            reason = refusal(model, self._variables, expression)
            if reason is None:
                yield Demands(self._variables, expression).are_met(model)
            else:
                yield reason

    def counter_models(self, minima=(8, 16, 16, 32, 64)):
        """The list of the least models in which each expression is not clean, with None where there is none."""
        check_widths(minima)
        return [counter_model(self._variables, expression, minima) for expression in self._current]

    @classmethod
    def of_texts(cls, variables_text, texts):
        """The project with the expressions of texts; there is no call that it could take back."""
        project = cls(read_variables(variables_text))
        for text in texts:
            expression = read_expression(text)
            check_expression(project._variables, expression)
            project._current = project._current + [expression]
        return project
