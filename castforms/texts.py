"""Texts of expressions, variables and models."""

# What stands between the brackets of each word; an empty string stands for the next item of the tuple.
SHAPES = {
    "cast": ("cast", "", ""),
    "neg": ("neg", ""),
    "add": ("", "+", ""),
    "sub": ("", "-", ""),
    "mul": ("", "*", ""),
    "shl": ("", "<<", ""),
    "shr": ("", ">>", ""),
    "if": ("", "?", "", ":", ""),
    "less": ("", "<", ""),
    "most": ("", "<=", ""),
    "not": ("not", ""),
    "and": ("", "and", ""),
    "or": ("", "or", ""),
}
NO_VARIABLES = "none"


def show_expression(expression):
    """The text of an expression or a condition."""
    word = expression[0]
    if word == "var":
        return expression[1]
    if word == "lit":
        return f"{expression[1]}{expression[2]}"
    shown = []
    items_so_far = 0
    for sign in SHAPES[word]:
        if sign:
            shown.append(sign)
        else:
            items_so_far += 1
            item = expression[items_so_far]
            shown.append(show_expression(item) if isinstance(item, tuple) else str(item))
    return "(" + " ".join(shown) + ")"


def show_variables(variables):
    """The text of a list of variables."""
    if not variables:
        return NO_VARIABLES
    return ", ".join([f"{name} {kind} {low} {high}" for name, kind, low, high in variables])


def show_model(model):
    """The text of a model."""
    widths, plain = model
    return " ".join([str(bits) for bits in widths] + [plain])
