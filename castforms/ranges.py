"""The least and the greatest mathematical values of expressions, and what conditions can be."""

from castforms.expressions import check_expression, check_variables, rows_of
from castforms.runs import exact


def spans_of(variables, rows):
    """The list of the tuples (least, greatest) of the mathematical values of the nodes of rows.

    That of a condition is of False and True, of which False is the lesser one.
    """
    ends = {row[0]: (row[2], row[3]) for row in variables}
    spans = []
    for _, node, places in rows:
        if node[0] == "var":
            spans.append(ends[node[1]])
        else:
            found = [exact(node, corner) for corner in corners([spans[at] for at in places])]
            spans.append((min(found), max(found)))
    return spans


def corners(spans):
    """All lists that have either end of each span.

    No variable occurs twice, so the parts of a node take any of their values whatever the others are. With the
    other parts fixed a node only rises, or only falls, as one part rises: so it is least, and greatest, where all
    parts are at their ends.
    """
    found = [[]]
    for span in spans:
        found = [corner + [end] for corner in found for end in span]
    return found


def bounds(variables, expression):
    """The least and the greatest mathematical value of an expression."""
    check_variables(variables)
    check_expression(variables, expression)
    return spans_of(variables, rows_of(expression))[-1]


def outcomes(variables, condition):
    """Whether a condition can be true, and whether it can be false, by mathematical values."""
    check_variables(variables)
    check_expression(variables, condition)
    least, greatest = spans_of(variables, rows_of(condition))[-1]
    return (greatest, not least)
