"""Expressions, variables and models with given texts.

A text is first taken apart by its words alone. Spaces that are missing or too many, and leading zeros, are found
in the end: then the value that was read has another text.
"""

from castforms.errors import InvalidModel, InvalidVariables, Unreadable
from castforms.expressions import CONDITIONS, ITEMS, SUFFIXES, check_variables, is_name
from castforms.models import KINDS, check_model
from castforms.texts import NO_VARIABLES, SHAPES, show_expression, show_model, show_variables

DIGITS = "0123456789"
MOST_DIGITS = 50


def _number(text):
    """The integer with these digits, None if it is no such text."""
    if not 1 <= len(text) <= MOST_DIGITS or not all([sign in DIGITS for sign in text]):
        return None
    return int(text)


def _integer(text):
    """The integer with this text, which may begin with a minus; None if it is no such text."""
    if not text.startswith("-"):
        return _number(text)
    number = _number(text[1:])
    return None if number is None else -number


def _leaf(text):
    """The variable or the literal with this text, None if there is none."""
    if is_name(text):
        return ("var", text)
    digits = text.rstrip("ulw")
    number, suffix = _number(digits), text[len(digits):]
    return None if number is None or suffix not in SUFFIXES else ("lit", number, suffix)


def _item(form, piece):
    """The item of a node that a piece of its text means, a word or a node; None if it means none."""
    if isinstance(piece, tuple):
        return piece if form == ("condition" if piece[0] in CONDITIONS else "expression") else None
    if form == "expression":
        return _leaf(piece)
    if form == "number":
        return _number(piece)
    return piece if form == "kind" and piece in KINDS else None


def _node(pieces):
    """The node with these pieces between its brackets, None if there is none."""
    for word, shape in SHAPES.items():
        if len(shape) == len(pieces) and all([sign in ("", piece) for sign, piece in zip(shape, pieces)]):
            given = [piece for sign, piece in zip(shape, pieces) if not sign]
            found = [_item(form, piece) for form, piece in zip(ITEMS[word], given)]
            if None not in found:
                return (word, *found)
    return None


def _whole(pieces):
    """The expression or condition that is the only piece, None if there is none."""
    if len(pieces) != 1:
        return None
    piece = pieces[0]
    return piece if isinstance(piece, tuple) else _leaf(piece)


def _taken_apart(text):
    """The expression or condition that a text means, None if it means none."""
    # The pieces so far within each bracket that is open, and without any.
    opened = [[]]
    for word in text.replace("(", "( ").replace(")", " )").split(" "):
        if word == "(":
            opened.append([])
        elif word == ")":
            node = _node(opened.pop())
            if node is None or not opened:
                return None
            opened[-1].append(node)
        else:
            opened[-1].append(word)
    return _whole(opened[0]) if len(opened) == 1 else None


def read_expression(text):
    """The expression or condition with a text."""
    expression = _taken_apart(text)
    if expression is None or show_expression(expression) != text:
        raise Unreadable(text)
    return expression


def _variable(text):
    """The variable that a text means, None if it means none."""
    words = text.split(" ")
    if len(words) != 4:
        return None
    low, high = _integer(words[2]), _integer(words[3])
    return None if low is None or high is None else (words[0], words[1], low, high)


def _are_valid(variables):
    try:
        check_variables(variables)
    except InvalidVariables:
        return False
    return True


def read_variables(text):
    """The list of variables with a text."""
    if text == NO_VARIABLES:
        return []
    variables = [_variable(part) for part in text.split(", ")]
    if None in variables or not _are_valid(variables) or show_variables(variables) != text:
        raise Unreadable(text)
    return variables


def _is_valid(model):
    try:
        check_model(model)
    except InvalidModel:
        return False
    return True


def read_model(text):
    """The model with a text."""
    words = text.split(" ")
    widths = [_number(word) for word in words[:-1]]
    model = (tuple(widths), words[-1])
    if None in widths or not _is_valid(model) or show_model(model) != text:
        raise Unreadable(text)
    return model
