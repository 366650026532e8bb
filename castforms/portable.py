"""Whether expressions are clean in all models, and the least models in which they are and are not."""

from castforms.classes import classes_of
from castforms.clean import Demands
from castforms.expressions import check_expression, check_variables
from castforms.models import GREATEST_WIDTH, check_widths


def _checked_demands(variables, expression, minima):
    check_variables(variables)
    check_expression(variables, expression)
    check_widths(minima)
    return Demands(variables, expression)


def counter_model(variables, expression, minima=(8, 16, 16, 32, 64)):
    """The least model that admits an expression and in which it is not clean, None if there is none."""
    demands = _checked_demands(variables, expression, minima)
    classes = classes_of(variables, demands.rows, minima, GREATEST_WIDTH)
    # Where the least model of a class is clean, all others are.
    for model in sorted([whole.least_model() for whole in classes]):
        if not demands.are_met(model):
            return model
    return None


def is_portable(variables, expression, minima=(8, 16, 16, 32, 64)):
    """Whether an expression is clean in every model that admits it."""
    return counter_model(variables, expression, minima) is None


def least_clean_model(variables, expression, minima=(8, 16, 16, 32, 64)):
    """The least model that admits an expression and in which it is clean, None if there is none."""
    demands = _checked_demands(variables, expression, minima)
    classes = classes_of(variables, demands.rows, minima, GREATEST_WIDTH)
    found = [whole.clean_part(demands).least_model() for whole in classes]
    return min([model for model in found if model is not None], default=None)
