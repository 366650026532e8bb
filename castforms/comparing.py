"""Whether one expression is clean wherever another one is."""

from castforms.classes import classes_of
from castforms.clean import Demands
from castforms.expressions import check_expression, check_variables
from castforms.models import GREATEST_WIDTH, check_widths


def parting_model(variables, first, second, minima=(8, 16, 16, 32, 64)):
    """The least model that admits both expressions and in which only the second one is clean, None if there is none."""
    check_variables(variables)
    check_expression(variables, first)
    check_expression(variables, second)
    check_widths(minima)
    one, other = Demands(variables, first), Demands(variables, second)
    classes = classes_of(variables, one.rows + other.rows, minima, GREATEST_WIDTH)
    found = [whole.clean_part(other).least_model() for whole in classes]
    # Where the first expression is clean in the least of these models of a class, it is in all of them.
    return min([model for model in found if model is not None and not one.are_met(model)], default=None)


def clean_wherever(variables, first, second, minima=(8, 16, 16, 32, 64)):
    """Whether the first expression is clean in every model that admits both and in which the second one is clean."""
    return parting_model(variables, first, second, minima) is None
